/- The program's Sum of any list. -/
import Derived.Test.YteicljlmdphkhaaT
namespace Go.Proofs.Yteicljlmdphkhaa
open Go.RowKit
set_option linter.unusedVariables false
/-- The fractions of a list lie in memory, one behind the other. -/
def ListAt (w : World) (b off : Nat) (L : List (Int × Int)) : Prop := ∀ k, k < L.length → w.cell? ⟨b, off + k * 2, none⟩ = some (.int .i64 (L.getD k (0, 0)).1) ∧ w.cell? ⟨b, off + k * 2 + 1, none⟩ = some (.int .i64 (L.getD k (0, 0)).2)
def Fits (L : List (Int × Int)) : Prop := ∀ k, k < L.length → (L.getD k (0, 0)).1 ≤ 9223372036854775807 ∧ (L.getD k (0, 0)).2 ≤ 9223372036854775807
theorem ListAt.below {w w' : World} {b off B : Nat} {L : List (Int × Int)} (h : ListAt w b off L) (hb : Below B w w') (hl : b < B) : ListAt w' b off L :=
  fun k hk => ⟨(hb.cell (p := ⟨b, off + k * 2, none⟩) hl).trans (h k hk).1, (hb.cell (p := ⟨b, off + k * 2 + 1, none⟩) hl).trans (h k hk).2⟩
theorem nats_of {n d : Int} (h : okf n d = true) (h1 : n ≤ 9223372036854775807) (h2 : d ≤ 9223372036854775807) : ∃ c e : Nat, n = c ∧ d = e ∧ c < M63 ∧ e < M63 ∧ 0 < e := by
  unfold okf at h; simp at h
  refine ⟨n.toNat, d.toNat, by omega, by omega, ?_, ?_, by omega⟩ <;> unfold M63 <;> omega
/-- Sum's own memory in its second loop. -/
structure SS (W : World) (B g k : Nat) (x y c d : Int) (w : World) : Prop where
  b0 : Blk2 w B (.int .i64 0) (.int .i64 0) 23
  bs : Blk2 w g (.int .i64 x) (.int .i64 y) 23
  br : Blk2 w k (.int .i64 c) (.int .i64 d) 23
  lg : B < g
  lk : g < k
  bw : Below B W w
theorem SS.lt {W w : World} {B g k : Nat} {x y c d : Int} (h : SS W B g k x y c d w) : k < w.heap.size := h.br.lt
theorem SS.below {W w w' : World} {B g k : Nat} {x y c d : Int} (h : SS W B g k x y c d w) (hb : Below w.heap.size w w') : SS W B g k x y c d w' :=
  have := h.lt
  have := h.lg
  have := h.lk
  ⟨h.b0.below hb (by omega), h.bs.below hb (by omega), h.br.below hb (by omega), h.lg, h.lk, h.bw.trans (hb.mono (by omega))⟩
theorem SS.alloc {W w : World} {B g k : Nat} {x y c d : Int} (h : SS W B g k x y c d w) (o : Obj) : SS W B g k x y c d (w.alloc o) :=
  have := h.lt
  have := h.lg
  have := h.lk
  ⟨h.b0.alloc o, h.bs.alloc o, h.br.alloc o, h.lg, h.lk, h.bw.alloc (by omega) o⟩
theorem SS.drew {W w : World} {B g k : Nat} {x y c d : Int} (h : SS W B g k x y c d w) : SS W B g k x y c d w.drew := ⟨h.b0, h.bs, h.br, h.lg, h.lk, h.bw.drew⟩
theorem SS.other {W w : World} {B g k : Nat} {x y c d : Int} (h : SS W B g k x y c d w) {p : Addr} (hp : k < p.block) (u : Value) : SS W B g k x y c d (w.setCell p u) :=
  have := h.lg
  have := h.lk
  ⟨h.b0.other (by omega) u, h.bs.other (by omega) u, h.br.other (by omega) u, h.lg, h.lk, h.bw.setCell (by omega) u⟩
theorem SS.out {W w : World} {B g k : Nat} {x y c d : Int} (h : SS W B g k x y c d w) : (w.cell? ⟨g, 0, none⟩ = some (.int .i64 x) ∧ w.cell? ⟨g, 1, none⟩ = some (.int .i64 y) ∧ w.cell? ⟨k, 0, none⟩ = some (.int .i64 c) ∧ w.cell? ⟨k, 1, none⟩ = some (.int .i64 d) ∧ k < w.heap.size) ∧ SS W B g k x y c d w :=
  ⟨⟨h.bs.c0, h.bs.c1, h.br.c0, h.br.c1, h.lt⟩, h⟩

set_option maxRecDepth 100000 in
set_option maxHeartbeats 8000000 in
theorem sum_core (b off cap : Nat) (L : List (Int × Int)) (p q : Int) (ok : Bool) (hres : Hid (numR L = p ∧ denR L = q ∧ okR L = ok)) (hl : L.length ≤ 9223372036854775807) (w : World) (hb : b < w.heap.size) (hL : ListAt w b off L) (hF : Fits L) :
    Calls Try.prog 22 #[.slice (some ⟨b, off, none⟩) L.length cap] w fun e w' => e = .returned (.tuple #[.agg #[.int .i64 p, .int .i64 q], .bool ok]) ∧ Below w.heap.size w w' := by
  have HL := Lib.hid hL
  have HF := Lib.hid hF
  have Hb := Lib.hid hb
  clear hL hF hb
  obtain ⟨len, hlen⟩ : ∃ len, L.length = len := ⟨_, rfl⟩
  rw [hlen] at hl ⊢
  have Hlen := Lib.hid hlen
  clear hlen
  go_enter Try.func22, Try.ntmps22
  go_wp2
  go_loopw [13] (fun iv wr => ∃ k : Nat, k ≤ len ∧ iv = .int .i64 k ∧ Hid (∀ j, j < k → okf (L.getD j (0, 0)).1 (L.getD j (0, 0)).2 = true) ∧ Blk2 wr w.heap.size (.int .i64 0) (.int .i64 0) 23 ∧ Below w.heap.size w wr) (fun i _ => len - (intOf i).toNat)
  case atStart => exact ⟨0, Nat.zero_le _, rfl, Lib.hid (fun j hj => absurd hj (by omega)), Blk2.new w _ _ _, (Below.refl _ _).alloc (by simp) _⟩
  case round =>
    obtain ⟨k, hk, rfl, hv, B0, bw⟩ := hrel
    have Lr := HL.out.below bw Hb.out
    by_cases hlt : k < len
    · have hkL : k < L.length := by have := Hlen.out; omega
      obtain ⟨c0, c1⟩ := Lr k hkL
      have HkL := Lib.hid hkL
      clear Lr hkL
      obtain ⟨n, hn⟩ : ∃ n, (L.getD k (0, 0)).1 = n := ⟨_, rfl⟩
      obtain ⟨d, hd⟩ : ∃ d, (L.getD k (0, 0)).2 = d := ⟨_, rfl⟩
      rw [hn] at c0
      rw [hd] at c1
      have Hn := Lib.hid hn
      have Hd := Lib.hid hd
      clear hn hd
      cases hok : okf n d
      · have hbad := res_none (sumV_bad HkL.out (by rw [Hn.out, Hd.out]; exact hok))
        obtain ⟨rfl, rfl, rfl⟩ : p = 0 ∧ q = 0 ∧ ok = false := by
          obtain ⟨a1, a2, a3⟩ := hres.out
          obtain ⟨r1, r2, r3⟩ := hbad
          exact ⟨a1.symm.trans r1, a2.symm.trans r2, a3.symm.trans r3⟩
        clear hbad
        go_wp2_with fail
        refine (may_any n d _).mono ?_
        rintro e w1 ⟨rfl, hb1⟩
        have B1 := (B0.alloc _).below hb1 (by have := B0.lt; simp <;> omega)
        have bw1 := (bw.alloc bw.size _).trans (hb1.mono (by have := bw.size; simp <;> omega))
        clear c0 c1 B0 bw hb1
        obtain ⟨c0, c1, f0, f1⟩ := B1.all
        go_wp2
        refine bodyPost_ret (v := .tuple #[.agg #[.int .i64 0, .int .i64 0], .bool false]) (by simp [results, Try.results22, go_sem, c0, c1]) rfl ⟨rfl, ?_⟩
        repeat (first | exact bw1 | refine Below.setCell ?_ (by simp <;> omega) _)
      · have hv2 : Hid (∀ j, j < k + 1 → okf (L.getD j (0, 0)).1 (L.getD j (0, 0)).2 = true) := Lib.hid (by
          intro j hj
          rcases Nat.lt_or_ge j k with h | h
          · exact hv.out j h
          · have e : j = k := by omega
            rw [e, Hn.out, Hd.out]; exact hok)
        go_wp2_with fail
        refine (may_any n d _).mono ?_
        rintro e w1 ⟨rfl, hb1⟩
        have B1 := (B0.alloc _).below hb1 (by have := B0.lt; simp <;> omega)
        have bw1 := (bw.alloc bw.size _).trans (hb1.mono (by have := bw.size; simp <;> omega))
        clear c0 c1 B0 bw hb1
        go_wp2
        go_roundw
        case rel => exact ⟨k + 1, by omega, by go_num, hv2, B1, bw1⟩
        case measure => simp [intOf]; omega
    · have hke : k = len := by omega
      subst hke
      have hval := valid_of (L := L) (by rw [Hlen.out]; exact hv.out)
      have Hval := Lib.hid (sumV_eq hval)
      clear hval Lr
      go_wp2_with fail
      refine (nought_any _).mono ?_
      rintro e w1 ⟨rfl, hb1⟩
      have B1 := B0.below hb1 B0.lt
      have bw1 := bw.trans (hb1.mono bw.size)
      clear hb1 B0 bw
      have S1 : Hid (sumF 0 1 ((natL L).drop 0) = sumV L) := Lib.hid (by rw [List.drop_zero]; exact Hval.out.symm)
      have Ls := HL.out.below bw1 Hb.out
      have HL1 := Lib.hid Ls
      clear Ls hlt hk
      go_wp2
      have hG := B1.lt
      go_loopg [25] k (fun g iv wr => ∃ j x y : Nat, iv = .int .i64 j ∧ g + j = k ∧ Hid (Nat.gcd x y = 1) ∧ Hid (0 < y) ∧ Hid (x < M63) ∧ Hid (y < M63) ∧ Hid (sumF x y ((natL L).drop j) = sumV L) ∧ Blk2 wr w.heap.size (.int .i64 0) (.int .i64 0) 23 ∧ Blk2 wr w1.heap.size (.int .i64 x) (.int .i64 y) 23 ∧ Below w.heap.size w wr)
      case atStart => exact ⟨0, 0, 1, rfl, rfl, Lib.hid (by decide), Lib.hid (by decide), Lib.hid (by decide), Lib.hid (by decide), S1, B1.alloc _, Blk2.new w1 _ _ _, bw1.alloc bw1.size _⟩
      case round =>
        obtain ⟨j, x, y, rfl, hj, hxy, hy0, hx, hy, hS, C0, C1, cw⟩ := hrel
        by_cases hlt : j < k
        · have hjL : j < L.length := by have := Hlen.out; omega
          obtain ⟨c0, c1⟩ := (HL.out.below cw Hb.out) j hjL
          obtain ⟨f1, f2⟩ := HF.out j hjL
          obtain ⟨c, e, hc, he, hcM, heM, he0⟩ := nats_of (hv.out j hlt) f1 f2
          have hS2 := hS.out
          rw [drop_step hjL, hc, he, Int.toNat_natCast, Int.toNat_natCast] at hS2
          have HS2 := Lib.hid hS2
          rw [hc] at c0
          rw [he] at c1
          have HcM := Lib.hid hcM
          have HeM := Lib.hid heM
          have He0 := Lib.hid he0
          clear hc he hcM heM he0 f1 f2 hjL hS2
          obtain ⟨okS, pS, qS, hstep⟩ : ∃ (okS : Bool) (pS qS : Int), sN x y c e < M63 ∧ sD x y c e < M63 ∧ okS = true ∧ pS = sN x y c e ∧ qS = sD x y c e ∨ ¬ (sN x y c e < M63 ∧ sD x y c e < M63) ∧ okS = false ∧ pS = 0 ∧ qS = 0 := by
            by_cases h : sN x y c e < M63 ∧ sD x y c e < M63
            · exact ⟨true, _, _, Or.inl ⟨h.1, h.2, rfl, rfl, rfl⟩⟩
            · exact ⟨false, 0, 0, Or.inr ⟨h, rfl, rfl, rfl⟩⟩
          have HST := Lib.hid hstep
          clear hstep
          obtain ⟨c2, hc2⟩ : ∃ z, c / Nat.gcd c e = z := ⟨_, rfl⟩
          obtain ⟨e2, he2⟩ : ∃ z, e / Nat.gcd c e = z := ⟨_, rfl⟩
          have Hc2 := Lib.hid hc2
          have He2 := Lib.hid he2
          clear hc2 he2
          go_upto_region 11 with fail
          have M : SS w w.heap.size w1.heap.size wr.heap.size x y c e (wr.alloc (.cells #[.int .i64 c, .int .i64 e] 23)) := ⟨C0.alloc _, C1.alloc _, Blk2.new wr _ _ _, hG, C1.lt, cw.alloc cw.size _⟩
          generalize World.alloc wr _ = wz at M ⊢
          clear c0 c1 C0 C1 cw hS
          go_cut [9, 10] (fun s9 s10 wx => ∃ g9 : Nat, s9 = .pointer (some ⟨g9, 0, none⟩) ∧ s10 = .bool okS ∧ wr.heap.size < g9 ∧ g9 < wx.heap.size ∧ wx.cell? ⟨g9, 0, none⟩ = some (.int .i64 pS) ∧ wx.cell? ⟨g9, 1, none⟩ = some (.int .i64 qS) ∧ SS w w.heap.size w1.heap.size wr.heap.size x y c e wx)
          case first =>
            have H0 := M.out
            go_region_held3 (fun wx => (wx.cell? ⟨w1.heap.size, 0, none⟩ = some (.int .i64 x) ∧ wx.cell? ⟨w1.heap.size, 1, none⟩ = some (.int .i64 y) ∧ wx.cell? ⟨wr.heap.size, 0, none⟩ = some (.int .i64 c) ∧ wx.cell? ⟨wr.heap.size, 1, none⟩ = some (.int .i64 e) ∧ wr.heap.size < wx.heap.size) ∧ SS w w.heap.size w1.heap.size wr.heap.size x y c e wx)
              ((refine SS.out ?_; repeat (first | exact M | refine SS.drew ?_ | refine SS.alloc ?_ _ | refine SS.other ?_ (by simp <;> omega) _ | refine SS.below ?_ (by assumption))))
              (first | (go_at_call 33; refine (reduce_any c e c2 e2 HcM.out HeM.out He0.out Hc2.out He2.out _).mono ?_; rintro e w3 ⟨rfl, hb3⟩; obtain ⟨hc3, hf3⟩ := bcell hb3; have hz3 := hb3.size; (try simp at hz3); (try have z31 : wz.heap.size < w3.heap.size := by omega)) | (go_at_call 32; refine (add_step x y c e c2 e2 okS pS qS hx.out hy.out hy0.out hxy.out HcM.out HeM.out He0.out Hc2.out He2.out HST.out _).mono ?_; rintro e w4 ⟨rfl, hb4⟩; obtain ⟨hc4, hf4⟩ := bcell hb4; have hz4 := hb4.size; (try simp at hz4); (try have z41 : wz.heap.size < w4.heap.size := by omega); (try have z42 : w3.heap.size < w4.heap.size := by omega)))
            all_goals (go_wp2_with fail)
            all_goals (have hs1 := M.lt)
            all_goals (go_meet; exact ⟨_, rfl, rfl, by first | omega | (simp <;> omega), by first | omega | (simp <;> omega), (by go_simp <;> (refine World.cell?_setCell_same _ _ _ (u := .int .i64 0) ?_; go_simp)), (by go_simp <;> (refine World.cell?_setCell_same _ _ _ (u := .int .i64 0) ?_; go_simp)), (‹_ ∧ SS _ _ _ _ _ _ _ _ _›).2⟩)
          case rest =>
            obtain ⟨g9, rfl, rfl, hg9, hl9, k0, k1, Mx⟩ := hcut
            obtain ⟨c00, c01, f00, f01⟩ := Mx.b0.all
            obtain ⟨cs0, cs1, fs0, fs1⟩ := Mx.bs.all
            rcases HST.out with ⟨h1, h2, rfl, rfl, rfl⟩ | ⟨hno, rfl, rfl, rfl⟩
            · have HN := HS2.out
              rw [sumF_yes _ _ _ _ _ h1 h2] at HN
              have HN2 := Lib.hid HN
              have H1 := Lib.hid h1
              have H2 := Lib.hid h2
              clear HN h1 h2
              go_wp2
              go_roundg (gk - 1)
              case measure => omega
              case rel =>
                refine ⟨j + 1, sN x y c e, sD x y c e, by go_num, by omega, Lib.hid (s_reduced x y c e hy0.out He0.out), Lib.hid (sD_pos x y c e hy0.out He0.out), H1, H2, HN2, ?_, ?_, ?_⟩
                · exact (Mx.b0.other (by have := Mx.lg; simp <;> omega) _).other (by have := Mx.lg; simp <;> omega) _
                · exact (Mx.bs.set0 _).set1 _
                · exact (Mx.bw.setCell (by have := Mx.lg; simp <;> omega) _).setCell (by have := Mx.lg; simp <;> omega) _
            · have HN := HS2.out
              rw [sumF_no _ _ _ _ _ hno] at HN
              obtain ⟨rfl, rfl, rfl⟩ : p = 0 ∧ q = 0 ∧ ok = false := by
                obtain ⟨a1, a2, a3⟩ := hres.out
                obtain ⟨r1, r2, r3⟩ := res_none HN.symm
                exact ⟨a1.symm.trans r1, a2.symm.trans r2, a3.symm.trans r3⟩
              clear HN hno
              go_wp2
              refine bodyPost_ret (v := .tuple #[.agg #[.int .i64 0, .int .i64 0], .bool false]) (by simp [results, Try.results22, go_sem, c00, c01]) rfl ⟨rfl, ?_⟩
              repeat (first | exact Mx.bw | refine Below.setCell ?_ (by simp <;> omega) _)
        · have hje : j = k := by omega
          subst hje
          obtain ⟨c00, c01, f00, f01⟩ := C0.all
          obtain ⟨cs0, cs1, fs0, fs1⟩ := C1.all
          have hend := hS.out
          have hdr : (natL L).drop j = [] := by rw [← Hlen.out]; exact drop_end
          rw [hdr] at hend
          obtain ⟨rfl, rfl, rfl⟩ : p = x ∧ q = y ∧ ok = true := by
            obtain ⟨a1, a2, a3⟩ := hres.out
            obtain ⟨r1, r2, r3⟩ := res_some hend.symm
            exact ⟨a1.symm.trans r1, a2.symm.trans r2, a3.symm.trans r3⟩
          clear hend hdr hlt
          go_wp2
          refine bodyPost_ret (v := .tuple #[.agg #[.int .i64 x, .int .i64 y], .bool true]) (by simp [results, Try.results22, go_sem, c00, c01]) rfl ⟨rfl, ?_⟩
          repeat (first | exact cw | refine Below.setCell ?_ (by simp <;> omega) _)
end Go.Proofs.Yteicljlmdphkhaa
