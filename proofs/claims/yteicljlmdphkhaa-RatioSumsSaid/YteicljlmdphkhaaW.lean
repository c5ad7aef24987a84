/- The reference's Sum of any list. -/
import Derived.Test.YteicljlmdphkhaaV
namespace Go.Proofs.Yteicljlmdphkhaa
open Go.RowKit
set_option linter.unusedVariables false
set_option maxRecDepth 100000 in
set_option maxHeartbeats 8000000 in
theorem rsum_core (b off cap : Nat) (L : List (Int × Int)) (p q : Int) (ok : Bool) (hres : Hid (numR L = p ∧ denR L = q ∧ okR L = ok)) (hl : L.length ≤ 9223372036854775807) (w : World) (hb : b < w.heap.size) (hL : ListAt w b off L) (hF : Fits L) :
    Calls Try.prog 23 #[.slice (some ⟨b, off, none⟩) L.length cap] w fun e w' => e = .returned (.tuple #[.agg #[.int .i64 p, .int .i64 q], .bool ok]) ∧ Below w.heap.size w w' := by
  have HL := Lib.hid hL
  have HF := Lib.hid hF
  have Hb := Lib.hid hb
  clear hL hF hb
  obtain ⟨len, hlen⟩ : ∃ len, L.length = len := ⟨_, rfl⟩
  rw [hlen] at hl ⊢
  have Hlen := Lib.hid hlen
  clear hlen
  go_enter Try.func23, Try.ntmps23
  go_wp2
  go_loopw [4] (fun iv wr => ∃ k : Nat, k ≤ len ∧ iv = .int .i64 k ∧ Hid (∀ j, j < k → okf (L.getD j (0, 0)).1 (L.getD j (0, 0)).2 = true) ∧ Blk2 wr w.heap.size (.int .i64 0) (.int .i64 0) 23 ∧ Below w.heap.size w wr) (fun i _ => len - (intOf i).toNat)
  case atStart => exact ⟨0, Nat.zero_le _, rfl, Lib.hid (fun j hj => absurd hj (by omega)), Blk2.new w _ _ _, (Below.refl _ _).alloc (by simp) _⟩
  case round =>
    obtain ⟨k, hk, rfl, hv, B0, bw⟩ := hrel
    have Lr := HL.out.below bw Hb.out
    by_cases hlt : k < len
    · have hkL : k < L.length := by have := Hlen.out; omega
      obtain ⟨c0, c1⟩ := Lr k hkL
      have HkL := Lib.hid hkL
      clear Lr hkL
      obtain ⟨n, hn⟩ : ∃ n, (L.getD k (0, 0)).1 = n := ⟨_, rfl⟩
      obtain ⟨d, hd⟩ : ∃ d, (L.getD k (0, 0)).2 = d := ⟨_, rfl⟩
      rw [hn] at c0
      rw [hd] at c1
      have Hn := Lib.hid hn
      have Hd := Lib.hid hd
      clear hn hd
      cases hok : okf n d
      · have hbad := res_none (sumV_bad HkL.out (by rw [Hn.out, Hd.out]; exact hok))
        obtain ⟨rfl, rfl, rfl⟩ : p = 0 ∧ q = 0 ∧ ok = false := by
          obtain ⟨a1, a2, a3⟩ := hres.out
          obtain ⟨r1, r2, r3⟩ := hbad
          exact ⟨a1.symm.trans r1, a2.symm.trans r2, a3.symm.trans r3⟩
        clear hbad
        go_wp2_with fail
        refine (rmay_any n d _).mono ?_
        rintro e w1 ⟨rfl, hb1⟩
        have B1 := B0.below hb1 B0.lt
        have bw1 := bw.trans (hb1.mono bw.size)
        clear c0 c1 B0 bw hb1
        obtain ⟨c0, c1, f0, f1⟩ := B1.all
        go_wp2
        refine bodyPost_ret (v := .tuple #[.agg #[.int .i64 0, .int .i64 0], .bool false]) (by simp [results, Try.results23, go_sem, c0, c1]) rfl ⟨rfl, ?_⟩
        repeat (first | exact bw1 | refine Below.setCell ?_ (by simp <;> omega) _)
      · have hv2 : Hid (∀ j, j < k + 1 → okf (L.getD j (0, 0)).1 (L.getD j (0, 0)).2 = true) := Lib.hid (by
          intro j hj
          rcases Nat.lt_or_ge j k with h | h
          · exact hv.out j h
          · have e : j = k := by omega
            rw [e, Hn.out, Hd.out]; exact hok)
        go_wp2_with fail
        refine (rmay_any n d _).mono ?_
        rintro e w1 ⟨rfl, hb1⟩
        have B1 := B0.below hb1 B0.lt
        have bw1 := bw.trans (hb1.mono bw.size)
        clear c0 c1 B0 bw hb1
        go_wp2
        go_roundw
        case rel => exact ⟨k + 1, by omega, by go_num, hv2, B1, bw1⟩
        case measure => simp [intOf]; omega
    · have hke : k = len := by omega
      subst hke
      have hval := valid_of (L := L) (by rw [Hlen.out]; exact hv.out)
      have Hval := Lib.hid (sumV_eq hval)
      clear hval Lr
      have S1 : Hid (sumF 0 1 ((natL L).drop 0) = sumV L) := Lib.hid (by rw [List.drop_zero]; exact Hval.out.symm)
      clear hlt hk
      obtain ⟨wo, rfl⟩ : ∃ wo : World, wo = wr := ⟨_, rfl⟩
      go_wp2
      have hG := B0.lt
      go_loopg [6] k (fun g iv wx => ∃ j x y : Nat, iv = .int .i64 j ∧ g + j = k ∧ Hid (0 < y) ∧ Hid (x < M63) ∧ Hid (y < M63) ∧ Hid (sumF x y ((natL L).drop j) = sumV L) ∧ Blk2 wx w.heap.size (.int .i64 0) (.int .i64 0) 23 ∧ Blk2 wx wo.heap.size (.int .i64 x) (.int .i64 y) 23 ∧ Below w.heap.size w wx)
      case atStart => exact ⟨0, 0, 1, rfl, rfl, Lib.hid (by decide), Lib.hid (by decide), Lib.hid (by decide), S1, B0.alloc _, Blk2.new wo _ _ _, bw.alloc bw.size _⟩
      case round =>
        obtain ⟨j, x, y, rfl, hj, hy0, hx, hy, hS, C0, C1, cw⟩ := hrel
        by_cases hlt : j < k
        · have hjL : j < L.length := by have := Hlen.out; omega
          obtain ⟨c0, c1⟩ := (HL.out.below cw Hb.out) j hjL
          obtain ⟨f1, f2⟩ := HF.out j hjL
          obtain ⟨c, e, hc, he, hcM, heM, he0⟩ := nats_of (hv.out j hlt) f1 f2
          have hS2 := hS.out
          rw [drop_step hjL, hc, he, Int.toNat_natCast, Int.toNat_natCast] at hS2
          have HS2 := Lib.hid hS2
          rw [hc] at c0
          rw [he] at c1
          have wc := wrap_cast c (M63_lt hcM)
          have we := wrap_cast e (M63_lt heM)
          have wx := wrap_cast x (M63_lt hx.out)
          have wy := wrap_cast y (M63_lt hy.out)
          have HcM := Lib.hid hcM
          have HeM := Lib.hid heM
          have He0 := Lib.hid he0
          clear hc he hcM heM he0 f1 f2 hjL hS2
          obtain ⟨okS, pS, qS, hstep⟩ : ∃ (okS : Bool) (pS qS : Int), sN x y c e < M63 ∧ sD x y c e < M63 ∧ okS = true ∧ pS = sN x y c e ∧ qS = sD x y c e ∨ ¬ (sN x y c e < M63 ∧ sD x y c e < M63) ∧ okS = false ∧ pS = 0 ∧ qS = 0 := by
            by_cases h : sN x y c e < M63 ∧ sD x y c e < M63
            · exact ⟨true, _, _, Or.inl ⟨h.1, h.2, rfl, rfl, rfl⟩⟩
            · exact ⟨false, 0, 0, Or.inr ⟨h, rfl, rfl, rfl⟩⟩
          have HST := Lib.hid hstep
          clear hstep
          have b1 := Lib.hid (mulM hx.out HeM.out)
          have b2 := Lib.hid (mulM HcM.out hy.out)
          have b3 := Lib.hid (mulM hy.out HeM.out)
          have hUU := Lib.hid (show U * U = 340282366920938463463374607431768211456 by decide)
          obtain ⟨cs0, cs1, fs0, fs1⟩ := C1.all
          have hlC := C1.lt
          go_wp2
          go_quiet (fail)
          go_wp2_with fail
          have D0 := C0.below (below_drewN (Below.refl _ _) nq) C0.lt
          have D1 := C1.below (below_drewN (Below.refl _ _) nq) C1.lt
          have dw := below_drewN cw nq
          clear c0 c1 cs0 cs1 fs0 fs1 hlC C0 C1 cw wc we wx wy
          generalize World.drewN wr nq = wd at D0 D1 dw ⊢
          refine (times_any x e (M63_lt hx.out) (M63_lt HeM.out) _).mono ?_
          rintro ee w1 ⟨rfl, hb1⟩
          have E0 := D0.below hb1 D0.lt
          have E1 := D1.below hb1 D1.lt
          have ew := dw.trans (hb1.mono dw.size)
          clear D0 D1 dw hb1
          go_wp2_with fail
          refine (times_any c y (M63_lt HcM.out) (M63_lt hy.out) _).mono ?_
          rintro ee w2 ⟨rfl, hb2⟩
          have F0 := E0.below hb2 E0.lt
          have F1 := E1.below hb2 E1.lt
          have fw := ew.trans (hb2.mono ew.size)
          clear E0 E1 ew hb2
          go_wp2_with fail
          refine (rplus_any (x * e) (c * y) (x * e + c * y) _ _ _ _ (by have := b1.out; have := hUU.out; omega) (by have := b2.out; have := hUU.out; omega) (Nat.mod_eq_of_lt (by have := b1.out; have := b2.out; have := hUU.out; omega)) rfl rfl rfl rfl _).mono ?_
          rintro ee w3 ⟨rfl, hb3⟩
          have G0 := F0.below hb3 F0.lt
          have G1 := F1.below hb3 F1.lt
          have gw := fw.trans (hb3.mono fw.size)
          clear F0 F1 fw hb3
          go_wp2_with fail
          refine (times_any y e (M63_lt hy.out) (M63_lt HeM.out) _).mono ?_
          rintro ee w4 ⟨rfl, hb4⟩
          have I0 := G0.below hb4 G0.lt
          have I1 := G1.below hb4 G1.lt
          have iw := gw.trans (hb4.mono gw.size)
          clear G0 G1 gw hb4
          go_wp2_with fail
          refine (rreduce_any (x * e + c * y) (y * e) (sN x y c e) (sD x y c e) (gN x y c e) okS pS qS _ _ _ _ (by have := b1.out; have := b2.out; have := hUU.out; omega) (by have := b3.out; have := hUU.out; omega) (Nat.mul_pos hy0.out He0.out) rfl rfl rfl rfl rfl rfl rfl HST.out _).mono ?_
          rintro ee w5 ⟨rfl, hb5⟩
          have J0 := I0.below hb5 I0.lt
          have J1 := I1.below hb5 I1.lt
          have jw := iw.trans (hb5.mono iw.size)
          clear I0 I1 iw hb5
          obtain ⟨c00, c01, f00, f01⟩ := J0.all
          obtain ⟨cs0, cs1, fs0, fs1⟩ := J1.all
          have l0 := J0.lt
          have l1 := J1.lt
          rcases HST.out with ⟨h1, h2, rfl, rfl, rfl⟩ | ⟨hno, rfl, rfl, rfl⟩
          · have HN := HS2.out
            rw [sumF_yes _ _ _ _ _ h1 h2] at HN
            have HN2 := Lib.hid HN
            have H1 := Lib.hid h1
            have H2 := Lib.hid h2
            clear HN h1 h2
            go_wp2
            go_roundg (gk - 1)
            case measure => omega
            case rel =>
              refine ⟨j + 1, sN x y c e, sD x y c e, by go_num, by omega, Lib.hid (sD_pos x y c e hy0.out He0.out), H1, H2, HN2, ?_, ?_, ?_⟩
              · exact ((J0.other (by simp <;> omega) _).other (by simp <;> omega) _).alloc _
              · exact ((J1.set0 _).set1 _).alloc _
              · exact ((jw.setCell (by simp <;> omega) _).setCell (by simp <;> omega) _).alloc (by simp <;> omega) _
          · have HN := HS2.out
            rw [sumF_no _ _ _ _ _ hno] at HN
            obtain ⟨rfl, rfl, rfl⟩ : p = 0 ∧ q = 0 ∧ ok = false := by
              obtain ⟨a1, a2, a3⟩ := hres.out
              obtain ⟨r1, r2, r3⟩ := res_none HN.symm
              exact ⟨a1.symm.trans r1, a2.symm.trans r2, a3.symm.trans r3⟩
            clear HN hno
            go_wp2
            refine bodyPost_ret (v := .tuple #[.agg #[.int .i64 0, .int .i64 0], .bool false]) (by simp [results, Try.results23, go_sem, c00, c01, l0]) rfl ⟨rfl, ?_⟩
            repeat (first | exact jw | refine Below.setCell ?_ (by simp <;> omega) _ | refine Below.alloc ?_ (by simp <;> omega) _)
        · have hje : j = k := by omega
          subst hje
          obtain ⟨c00, c01, f00, f01⟩ := C0.all
          obtain ⟨cs0, cs1, fs0, fs1⟩ := C1.all
          have hend := hS.out
          have hdr : (natL L).drop j = [] := by rw [← Hlen.out]; exact drop_end
          rw [hdr] at hend
          obtain ⟨rfl, rfl, rfl⟩ : p = x ∧ q = y ∧ ok = true := by
            obtain ⟨a1, a2, a3⟩ := hres.out
            obtain ⟨r1, r2, r3⟩ := res_some hend.symm
            exact ⟨a1.symm.trans r1, a2.symm.trans r2, a3.symm.trans r3⟩
          clear hend hdr hlt
          go_wp2
          refine bodyPost_ret (v := .tuple #[.agg #[.int .i64 x, .int .i64 y], .bool true]) (by simp [results, Try.results23, go_sem, c00, c01]) rfl ⟨rfl, ?_⟩
          repeat (first | exact cw | refine Below.setCell ?_ (by simp <;> omega) _)
end Go.Proofs.Yteicljlmdphkhaa
