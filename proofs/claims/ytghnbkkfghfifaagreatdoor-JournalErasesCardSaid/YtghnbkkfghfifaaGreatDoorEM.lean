/- Bytes of an event that may be: the reference's. -/
import Derived.Test.YtghnbkkfghfifaaGreatDoorEL
import Derived.Deep.RegionLaw
import Derived.Deep.DeepCutAuto
namespace Go.Proofs.YtghnbkkfghfifaaGreatDoor.E
open Go.RowKit
set_option linter.unusedVariables false
theorem u8s_one (l : List UInt8) : ∀ u ∈ u8s l, u.oneCell' = true := by
  intro u hu
  obtain ⟨b, _, rfl⟩ := List.mem_map.1 hu
  rfl
theorem own_cells {w : World} {base g cap : Nat} {l : List UInt8} (h : OwnB w base (.slice (some ⟨g, 0, none⟩) l.length cap) l) : ∀ j u, (u8s l)[j]? = some u → w.cell? ((⟨g, 0, none⟩ : Addr).add j) = some u := World.ownsRow.cells h rfl
theorem own_alloc {w : World} {base : Nat} {v : Value} {l : List UInt8} (h : OwnB w base v l) (o : Obj) : OwnB (w.alloc o) base v l := World.ownsRow.alloc h o
theorem OwnB.drew {w : World} {base : Nat} {v : Value} {l : List UInt8} (h : OwnB w base v l) : OwnB w.drew base v l := h
theorem u8s_len (l : List UInt8) : (u8s l).length = l.length := by unfold u8s; simp
set_option maxRecDepth 100000 in
set_option maxHeartbeats 2000000 in
theorem renc_nat (s : ByteArray) (n a k : Nat) (p i : ByteArray) (v : Nat) (t : ByteArray) (hf : Fit ⟨s, n, a, k, p, i, v, t⟩) (w : World) :
    Calls Tryz.prog 76 #[.agg #[.string s, .int .i64 n, .int .i64 a, .int .i64 k, .string p, .string i, .int .i64 v, .string t]] w fun e w' => ∃ u, e = .returned u ∧ OwnB w' w.heap.size u (encL ⟨s, n, a, k, p, i, v, t⟩) ∧ Below w.heap.size w w' := by
  have hlen := encL_len _ hf
  rw [encN] at hlen ⊢
  obtain ⟨f1, f2, f3, f4, f5, f6, f7, f8⟩ := hf
  simp only at f1 f2 f3 f4 f5 f6 f7 f8
  obtain ⟨g1, g2⟩ := f5
  obtain ⟨g3, g4⟩ := f6
  obtain ⟨g5, g6⟩ := f7
  obtain ⟨g7, g8⟩ := f8
  have hk : k < 256 := by omega
  have m1 : n ≤ 9223372036854775807 := by omega
  have m2 : a ≤ 9223372036854775807 := by omega
  have m3 : v ≤ 9223372036854775807 := by omega
  simp only [List.length_append, txtL_len, List.length_singleton] at hlen
  obtain ⟨i0, hi, hz0, hz1, hz2⟩ := info_parts info5
  have hkw : IntKind.u8.wrap (k : Int) = k := by rw [IntKind.wrap_u8]; omega
  go_enter Tryz.func76, Tryz.ntmps76
  go_upto_region 1 with fail
  have E := EvAt.new w ⟨s, n, a, k, p, i, v, t⟩
  have bw := (Below.refl w.heap.size w).alloc (Nat.le_refl _) (.cells #[.string s, .int .i64 n, .int .i64 a, .int .i64 k, .string p, .string i, .int .i64 v, .string t] 52)
  simp only at E
  generalize w.alloc _ = wz at E bw ⊢
  obtain ⟨c0, c1, c2, c3, c4, c5, c6, c7⟩ := E.all
  simp only at c0 c1 c2 c3 c4 c5 c6 c7
  have hz := E.lt
  go_cut [3] (fun s3 wx => OwnB wx wz.heap.size s3 ([k.toUInt8] ++ txtL s) ∧ Below wz.heap.size wz wx)
  case first =>
    go_region_law (first | (go_simp; go_at_call 102; refine (word_any s (by omega) _).mono ?_; rintro e w2 ⟨x, rfl, hx, hb2⟩; obtain ⟨g, cap, rfl, hg, hg2⟩ := World.ownsRow.form (w := w2) hx (by rw [txtL_len]; omega); have hsz2 := hb2.size; simp at hsz2; have E2 : EvAt w2 w.heap.size ⟨s, n, a, k, p, i, v, t⟩ := (by first | exact EvAt.below (w := wz.drew) E hb2 (by simp; omega) | exact EvAt.below (w := (wz.alloc _).drew) (E.alloc _) hb2 (by simp; omega)); clear c0 c1 c2 c3 c4 c5 c6 c7; obtain ⟨c0, c1, c2, c3, c4, c5, c6, c7⟩ := E2.all; simp only at c0 c1 c2 c3 c4 c5 c6 c7; have hzw : w.heap.size < w2.heap.size := E2.lt) | (refine step_append_lies _ rfl (.tmp 7) (.tmp 10) 38 rfl wz.heap.size 5 i0 (.int .u8 0) 1 1 Tryz.underlying38 hi hz0 hz1 hz2 rfl (by decide) (.slice (some ⟨wz.heap.size, 0, none⟩) 1 1) 1 (u8s [k.toUInt8]) rfl (OwnB.below (OwnB.drew (own_lit1' wz k hk)) hb2 (by simp)) ⟨g, 0, none⟩ (txtL s).length cap (u8s (txtL s)) rfl (by rw [u8s_len, Nat.mul_one]) (own_cells hx) (u8s_one _) (by rw [txtL_len]; omega) (by rw [txtL_len]; unfold maxLen; omega) (by rw [txtL_len]; omega) (by omega) _ rfl ?_; intro g3 cap3 w3 ho3 hg3 _ _; have fin : Below wz.heap.size wz w3 := ((((Below.refl wz.heap.size wz).alloc (by simp) _).drew).trans (hb2.mono (by simp))).grown hg3 (by omega) (fun k hk => by cases hk; exact Nat.le_refl _)) | (refine step_append_lies _ rfl (.tmp 7) (.tmp 10) 38 rfl wz.heap.size 5 i0 (.int .u8 0) 1 1 Tryz.underlying38 hi hz0 hz1 hz2 rfl (by decide) (.slice (some ⟨w2.heap.size, 0, none⟩) 1 1) 1 (u8s [k.toUInt8]) rfl ((own_lit1' w2 k hk).mono (by omega)) ⟨g, 0, none⟩ (txtL s).length cap (u8s (txtL s)) rfl (by rw [u8s_len, Nat.mul_one]) (own_cells (own_alloc hx _)) (u8s_one _) (by rw [txtL_len]; omega) (by rw [txtL_len]; unfold maxLen; omega) (by rw [txtL_len]; omega) (by simp; omega) _ rfl ?_; intro g3 cap3 w3 ho3 hg3 _ _; have fin : Below wz.heap.size wz w3 := ((((Below.refl wz.heap.size wz).drew).trans (hb2.mono (by simp))).alloc (by omega) _).grown hg3 (by simp; omega) (fun k hk => by cases hk; omega)))
    all_goals (go_wp2_with fail; go_meet; exact ⟨by unfold OwnB; rw [u8s_app, List.length_append]; exact ho3, fin⟩)
  case rest =>
    obtain ⟨HO, bx⟩ := hcut
    clear c0 c1 c2 c3 c4 c5 c6 c7
    obtain ⟨c0, c1, c2, c3, c4, c5, c6, c7⟩ := (E.below bx hz).all
    simp only at c0 c1 c2 c3 c4 c5 c6 c7
    have hzz : w.heap.size < wc.heap.size := Nat.lt_of_lt_of_le hz bx.size
    have HO := Lib.hid HO
    have bx := Lib.hid bx
    go_wp2_with fail
    refine (number_any n m1 _).mono ?_
    rintro e y0 ⟨x0, rfl, hx, hb⟩
    have O2 := OwnB.below HO.out hb (Nat.le_refl _)
    have bx2 := bx.out.trans (hb.mono bx.out.size)
    obtain ⟨g0, cap0, rfl, _, hgl⟩ := World.ownsRow.form (w := y0) hx (numL_pos n)
    have hob := own_block O2
    clear HO bx hb hgl c0 c1 c2 c3 c4 c5 c6 c7 hzz
    have bsz := bx2.size
    go_wp2_with (at_builtin; refine wpList_append_own _ rfl (.tmp 12) (.tmp 15) 38 rfl wz.heap.size 5 i0 (.int .u8 0) 1 1 Tryz.underlying38 hi hz0 hz1 hz2 rfl (by decide) _ ([k.toUInt8] ++ txtL s).length _ rfl O2 ⟨g0, 0, none⟩ (numL n).length cap0 (u8s (numL n)) rfl ?a0 ?b0 ?c0 ?d0 ?e0 ?f0 ?_)
    case a0 => rw [u8s_len, Nat.mul_one]
    case b0 => exact own_cells hx
    case c0 => exact u8s_one _
    case d0 => simp [txtL_len, maxLen]; omega
    case e0 => simp [txtL_len]; omega
    case f0 => omega
    intro q0 z0 hown' hgrow' _
    have bx3 := bx2.grown hgrow' bsz hob
    have HO : OwnB z0 wz.heap.size q0 ([k.toUInt8] ++ txtL s ++ numL n) := by unfold OwnB; rw [u8s_app, List.length_append]; simpa using hown'
    clear hown' hgrow' hob O2 hx bx2 bsz
    obtain ⟨c0, c1, c2, c3, c4, c5, c6, c7⟩ := (E.below bx3 hz).all
    simp only at c0 c1 c2 c3 c4 c5 c6 c7
    have hzz : w.heap.size < z0.heap.size := Nat.lt_of_lt_of_le hz bx3.size
    have HO := Lib.hid HO
    have bx := Lib.hid bx3
    clear bx3
    go_wp2_with fail
    refine (number_any a m2 _).mono ?_
    rintro e y1 ⟨x1, rfl, hx, hb⟩
    have O2 := OwnB.below HO.out hb (Nat.le_refl _)
    have bx2 := bx.out.trans (hb.mono bx.out.size)
    obtain ⟨g1, cap1, rfl, _, hgl⟩ := World.ownsRow.form (w := y1) hx (numL_pos a)
    have hob := own_block O2
    clear HO bx hb hgl c0 c1 c2 c3 c4 c5 c6 c7 hzz
    have bsz := bx2.size
    go_wp2_with (at_builtin; refine wpList_append_own _ rfl (.tmp 17) (.tmp 20) 38 rfl wz.heap.size 5 i0 (.int .u8 0) 1 1 Tryz.underlying38 hi hz0 hz1 hz2 rfl (by decide) _ ([k.toUInt8] ++ txtL s ++ numL n).length _ rfl O2 ⟨g1, 0, none⟩ (numL a).length cap1 (u8s (numL a)) rfl ?a1 ?b1 ?c1 ?d1 ?e1 ?f1 ?_)
    case a1 => rw [u8s_len, Nat.mul_one]
    case b1 => exact own_cells hx
    case c1 => exact u8s_one _
    case d1 => simp [txtL_len, maxLen]; omega
    case e1 => simp [txtL_len]; omega
    case f1 => omega
    intro q1 z1 hown' hgrow' _
    have bx3 := bx2.grown hgrow' bsz hob
    have HO : OwnB z1 wz.heap.size q1 ([k.toUInt8] ++ txtL s ++ numL n ++ numL a) := by unfold OwnB; rw [u8s_app, List.length_append]; simpa using hown'
    clear hown' hgrow' hob O2 hx bx2 bsz
    obtain ⟨c0, c1, c2, c3, c4, c5, c6, c7⟩ := (E.below bx3 hz).all
    simp only at c0 c1 c2 c3 c4 c5 c6 c7
    have hzz : w.heap.size < z1.heap.size := Nat.lt_of_lt_of_le hz bx3.size
    have HO := Lib.hid HO
    have bx := Lib.hid bx3
    clear bx3
    go_wp2_with fail
    refine (word_any p (by omega) _).mono ?_
    rintro e y2 ⟨x2, rfl, hx, hb⟩
    have O2 := OwnB.below HO.out hb (Nat.le_refl _)
    have bx2 := bx.out.trans (hb.mono bx.out.size)
    obtain ⟨g2, cap2, rfl, _, hgl⟩ := World.ownsRow.form (w := y2) hx (by rw [txtL_len]; omega)
    have hob := own_block O2
    clear HO bx hb hgl c0 c1 c2 c3 c4 c5 c6 c7 hzz
    have bsz := bx2.size
    go_wp2_with (at_builtin; refine wpList_append_own _ rfl (.tmp 22) (.tmp 25) 38 rfl wz.heap.size 5 i0 (.int .u8 0) 1 1 Tryz.underlying38 hi hz0 hz1 hz2 rfl (by decide) _ ([k.toUInt8] ++ txtL s ++ numL n ++ numL a).length _ rfl O2 ⟨g2, 0, none⟩ (txtL p).length cap2 (u8s (txtL p)) rfl ?a2 ?b2 ?c2 ?d2 ?e2 ?f2 ?_)
    case a2 => rw [u8s_len, Nat.mul_one]
    case b2 => exact own_cells hx
    case c2 => exact u8s_one _
    case d2 => simp [txtL_len, maxLen]; omega
    case e2 => simp [txtL_len]; omega
    case f2 => omega
    intro q2 z2 hown' hgrow' _
    have bx3 := bx2.grown hgrow' bsz hob
    have HO : OwnB z2 wz.heap.size q2 ([k.toUInt8] ++ txtL s ++ numL n ++ numL a ++ txtL p) := by unfold OwnB; rw [u8s_app, List.length_append]; simpa using hown'
    clear hown' hgrow' hob O2 hx bx2 bsz
    obtain ⟨c0, c1, c2, c3, c4, c5, c6, c7⟩ := (E.below bx3 hz).all
    simp only at c0 c1 c2 c3 c4 c5 c6 c7
    have hzz : w.heap.size < z2.heap.size := Nat.lt_of_lt_of_le hz bx3.size
    have HO := Lib.hid HO
    have bx := Lib.hid bx3
    clear bx3
    go_wp2_with fail
    refine (word_any i (by omega) _).mono ?_
    rintro e y3 ⟨x3, rfl, hx, hb⟩
    have O2 := OwnB.below HO.out hb (Nat.le_refl _)
    have bx2 := bx.out.trans (hb.mono bx.out.size)
    obtain ⟨g3, cap3, rfl, _, hgl⟩ := World.ownsRow.form (w := y3) hx (by rw [txtL_len]; omega)
    have hob := own_block O2
    clear HO bx hb hgl c0 c1 c2 c3 c4 c5 c6 c7 hzz
    have bsz := bx2.size
    go_wp2_with (at_builtin; refine wpList_append_own _ rfl (.tmp 27) (.tmp 30) 38 rfl wz.heap.size 5 i0 (.int .u8 0) 1 1 Tryz.underlying38 hi hz0 hz1 hz2 rfl (by decide) _ ([k.toUInt8] ++ txtL s ++ numL n ++ numL a ++ txtL p).length _ rfl O2 ⟨g3, 0, none⟩ (txtL i).length cap3 (u8s (txtL i)) rfl ?a3 ?b3 ?c3 ?d3 ?e3 ?f3 ?_)
    case a3 => rw [u8s_len, Nat.mul_one]
    case b3 => exact own_cells hx
    case c3 => exact u8s_one _
    case d3 => simp [txtL_len, maxLen]; omega
    case e3 => simp [txtL_len]; omega
    case f3 => omega
    intro q3 z3 hown' hgrow' _
    have bx3 := bx2.grown hgrow' bsz hob
    have HO : OwnB z3 wz.heap.size q3 ([k.toUInt8] ++ txtL s ++ numL n ++ numL a ++ txtL p ++ txtL i) := by unfold OwnB; rw [u8s_app, List.length_append]; simpa using hown'
    clear hown' hgrow' hob O2 hx bx2 bsz
    obtain ⟨c0, c1, c2, c3, c4, c5, c6, c7⟩ := (E.below bx3 hz).all
    simp only at c0 c1 c2 c3 c4 c5 c6 c7
    have hzz : w.heap.size < z3.heap.size := Nat.lt_of_lt_of_le hz bx3.size
    have HO := Lib.hid HO
    have bx := Lib.hid bx3
    clear bx3
    go_wp2_with fail
    refine (number_any v m3 _).mono ?_
    rintro e y4 ⟨x4, rfl, hx, hb⟩
    have O2 := OwnB.below HO.out hb (Nat.le_refl _)
    have bx2 := bx.out.trans (hb.mono bx.out.size)
    obtain ⟨g4, cap4, rfl, _, hgl⟩ := World.ownsRow.form (w := y4) hx (numL_pos v)
    have hob := own_block O2
    clear HO bx hb hgl c0 c1 c2 c3 c4 c5 c6 c7 hzz
    have bsz := bx2.size
    go_wp2_with (at_builtin; refine wpList_append_own _ rfl (.tmp 32) (.tmp 35) 38 rfl wz.heap.size 5 i0 (.int .u8 0) 1 1 Tryz.underlying38 hi hz0 hz1 hz2 rfl (by decide) _ ([k.toUInt8] ++ txtL s ++ numL n ++ numL a ++ txtL p ++ txtL i).length _ rfl O2 ⟨g4, 0, none⟩ (numL v).length cap4 (u8s (numL v)) rfl ?a4 ?b4 ?c4 ?d4 ?e4 ?f4 ?_)
    case a4 => rw [u8s_len, Nat.mul_one]
    case b4 => exact own_cells hx
    case c4 => exact u8s_one _
    case d4 => simp [txtL_len, maxLen]; omega
    case e4 => simp [txtL_len]; omega
    case f4 => omega
    intro q4 z4 hown' hgrow' _
    have bx3 := bx2.grown hgrow' bsz hob
    have HO : OwnB z4 wz.heap.size q4 ([k.toUInt8] ++ txtL s ++ numL n ++ numL a ++ txtL p ++ txtL i ++ numL v) := by unfold OwnB; rw [u8s_app, List.length_append]; simpa using hown'
    clear hown' hgrow' hob O2 hx bx2 bsz
    obtain ⟨c0, c1, c2, c3, c4, c5, c6, c7⟩ := (E.below bx3 hz).all
    simp only at c0 c1 c2 c3 c4 c5 c6 c7
    have hzz : w.heap.size < z4.heap.size := Nat.lt_of_lt_of_le hz bx3.size
    have HO := Lib.hid HO
    have bx := Lib.hid bx3
    clear bx3
    go_wp2_with fail
    refine (word_any t (by omega) _).mono ?_
    rintro e y5 ⟨x5, rfl, hx, hb⟩
    have O2 := OwnB.below HO.out hb (Nat.le_refl _)
    have bx2 := bx.out.trans (hb.mono bx.out.size)
    obtain ⟨g5, cap5, rfl, _, hgl⟩ := World.ownsRow.form (w := y5) hx (by rw [txtL_len]; omega)
    have hob := own_block O2
    clear HO bx hb hgl c0 c1 c2 c3 c4 c5 c6 c7 hzz
    have bsz := bx2.size
    go_wp2_with (at_builtin; refine wpList_append_own _ rfl (.tmp 37) (.tmp 40) 38 rfl wz.heap.size 5 i0 (.int .u8 0) 1 1 Tryz.underlying38 hi hz0 hz1 hz2 rfl (by decide) _ ([k.toUInt8] ++ txtL s ++ numL n ++ numL a ++ txtL p ++ txtL i ++ numL v).length _ rfl O2 ⟨g5, 0, none⟩ (txtL t).length cap5 (u8s (txtL t)) rfl ?a5 ?b5 ?c5 ?d5 ?e5 ?f5 ?_)
    case a5 => rw [u8s_len, Nat.mul_one]
    case b5 => exact own_cells hx
    case c5 => exact u8s_one _
    case d5 => simp [txtL_len, maxLen]; omega
    case e5 => simp [txtL_len]; omega
    case f5 => omega
    intro q5 z5 hown' hgrow' _
    have bx3 := bx2.grown hgrow' bsz hob
    have HO : OwnB z5 wz.heap.size q5 ([k.toUInt8] ++ txtL s ++ numL n ++ numL a ++ txtL p ++ txtL i ++ numL v ++ txtL t) := by unfold OwnB; rw [u8s_app, List.length_append]; simpa using hown'
    clear hown' hgrow' hob O2 hx bx2 bsz
    obtain ⟨c0, c1, c2, c3, c4, c5, c6, c7⟩ := (E.below bx3 hz).all
    simp only at c0 c1 c2 c3 c4 c5 c6 c7
    have hzz : w.heap.size < z5.heap.size := Nat.lt_of_lt_of_le hz bx3.size
    have HO := Lib.hid HO
    have bx := Lib.hid bx3
    clear bx3
    go_wp2
    go_ret
    exact ⟨_, rfl, HO.out.mono (by omega), bw.trans (bx.out.mono (by omega))⟩
end Go.Proofs.YtghnbkkfghfifaaGreatDoor.E
