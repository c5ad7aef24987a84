/- The document's answer: a step of kind 4. -/
import Derived.Test.YtfkefppabjbbdaaFe
namespace Go.Proofs.Ytfkefppabjbbdaa
open Go.RowKit Go.Maps
set_option linter.unusedVariables false
set_option maxRecDepth 100000 in
set_option maxHeartbeats 2000000 in
theorem step_4 {w : World} {v : Value} {k : Dk} (h : Files w 0 v k.L) (hok : Ok k) (n s : List UInt8) (hs : s.length ≤ 1000000) (ha : ask k n = 0) :
    Calls Try.prog 28 #[.agg #[v, .int .i64 k.fuse, .bool k.down], .int .i64 4, .string (bs n), .string (bs s)] w (StepTo w k 4 n s) := by
  obtain ⟨L, fuse, down⟩ := k
  obtain ⟨hdn, hn1, hn2⟩ := ask_zero ha
  simp only at hdn
  subst hdn
  have HOK := Lib.hid hok
  have HAK := Lib.hid ha
  have HTO : Hid (∀ (e : Ending) (w' : World) (v' : Value) (fz : Int) (dn : Bool) (L' : List Fl) (err : Nat), e = .returned (.tuple #[.agg #[v', .int .i64 fz, .bool dn], .int .i64 err]) → (stE ⟨L, fuse, false⟩ 4 n s = err ∧ stD ⟨L, fuse, false⟩ 4 n s = ⟨L', fz, dn⟩) → Files w' 0 v' L' → Below w.heap.size w w' → StepTo w ⟨L, fuse, false⟩ 4 n s e w') := Lib.hid (fun e w' v' fz dn L' err he hq hf hb => by
    refine ⟨v', ?_, ?_, hb⟩
    · rw [hq.1, hq.2]; exact he
    · rw [hq.2]; exact hf)
  simp only at h ⊢
  obtain ⟨q, cap, rfl⟩ := h.len
  have hsz := bs_size n
  obtain ⟨N, hN⟩ : ∃ N, n.length = N := ⟨_, rfl⟩
  rw [hN] at hsz hn1 hn2
  have g1 : decide ((N : Int) < 1) = false := by simp; omega
  have g2 : decide ((64 : Int) < (N : Int)) = false := by simp; omega
  have HV := Lib.hid h
  have HL : Hid (L.length ≤ 1000000) := Lib.hid (by have := hok.len; simp only at this; omega)
  obtain ⟨b0, hb0⟩ : ∃ b, w.heap.size = b := ⟨_, rfl⟩
  have HB0 := Lib.hid hb0
  have hlow : ∀ g, Value.ownBlock (.slice q L.length cap) = some g → g < b0 := fun g hg => by
    rcases h.2 with ⟨e, _⟩ | ⟨g', cap', cur, e, _, hh, _⟩
    · rw [e] at hg; cases hg
    · rw [e] at hg; cases hg; have := lt_of_block hh; show g' < b0; omega
  clear h hok ha hN hn1 hn2
  rw [hb0] at HTO
  go_enter Try.func28, Try.ntmps28
  go_wp2_with fail
  refine (at_any ((HV.out.alloc (.cells #[.slice q L.length cap, .int .i64 fuse, .bool false] 28)).alloc (.cells #[.slice none 0 0, .int .i64 0, .bool false] 28)) HL.out fuse false n).mono ?_
  rintro e w2 ⟨r, rfl, hr, hb1⟩
  have hM : StM w w2 b0 (.slice q L.length cap) fuse L := by
    have m0 : StM w ((w.alloc (.cells #[.slice q L.length cap, .int .i64 fuse, .bool false] 28)).alloc (.cells #[.slice none 0 0, .int .i64 0, .bool false] 28)) b0 (.slice q L.length cap) fuse L := ⟨(Blk.at hb0.symm [_, _, _] 28).alloc _, Blk.at (by simp; omega) [_, _, _] 28, (HV.out.alloc _).alloc _, ((Below.refl _ w).alloc (by omega) _).alloc (by simp; omega) _, by simp; omega, hlow⟩
    exact m0.below hb1
  have HM := Lib.hid hM
  have a0 := hM.dsk.c 0 rfl
  have a1 := hM.dsk.c 1 rfl
  have a2 := hM.dsk.c 2 rfl
  have r0 := hM.res.c 0 rfl
  have r1 := hM.res.c 1 rfl
  have r2 := hM.res.c 2 rfl
  have q0 := hM.res.f 0
  have q1 := hM.res.f 1
  have q2 := hM.res.f 2
  clear hb1 hM hb0 hsz g1 g2 hlow
  rcases hr with ⟨rfl, hno⟩ | ⟨i, hi, rfl, hin⟩
  · have hg := at_none hno
    have HQ := Lib.hid (st_miss (k := ⟨L, fuse, false⟩) s HAK.out hg (kind := 4) (by decide))
    clear hno hg
    go_wp2_with fail
    obtain ⟨e1, e2, e3⟩ := fin28b (fuse := fuse) (down := false) HM.out.res HM.out.row HM.out.bw (show b0 ≤ b0 + 1 by omega) HB0.out
    refine bodyPost_ret (v := .tuple #[.agg #[.slice q L.length cap, .int .i64 fuse, .bool false], .int .i64 6]) (ret28t rfl rfl rfl e1) rfl (HTO.out _ _ _ _ _ _ _ rfl ?_ e2 e3)
    exact HQ.out
  · have hg := at_some HOK.out.sorted hi hin
    obtain ⟨ad, rfl, hab, -, hfi⟩ := HM.out.row.at i hi
    obtain ⟨f, hf⟩ : ∃ f, L[i] = f := ⟨_, rfl⟩
    rw [hf] at hfi hg hin
    have HG := Lib.hid hg
    have HOL : Hid (old n L = f) := Lib.hid (old_at hg)
    have HFN := Lib.hid hin
    have HGN : Hid ((get n L).isNone = false) := Lib.hid (by rw [hg]; rfl)
    have g3 : decide ((i : Int) < 0) = false := by simp
    have g5 : decide ((0 : Int) ≤ (i : Int)) = true := by simp
    go_upto_region 9 with fail
    have hM3 := HM.out.below ((Below.refl _ w2).alloc (Nat.le_refl _) (.cells #[.string (bs n), .string ⟨#[]⟩, .int .i64 0, .bool false] 71))
    have hC3 := Blk.new w2 [.string (bs n), .string ⟨#[]⟩, .int .i64 0, .bool false] 71
    have hB3 := (Below.refl w2.heap.size w2).alloc (Nat.le_refl _) (.cells #[.string (bs n), .string ⟨#[]⟩, .int .i64 0, .bool false] 71)
    obtain ⟨c, hc⟩ : ∃ c, w2.heap.size = c := ⟨_, rfl⟩
    have hcb : b0 + 2 ≤ c := by have := HM.out.sz; omega
    have hfi3 := hfi.below hB3 hab
    rw [hc] at hC3
    revert hM3 hC3 hfi3
    rw [hc]
    generalize w2.alloc (.cells #[.string (bs n), .string ⟨#[]⟩, .int .i64 0, .bool false] 71) = w3
    intro hM3 hC3 hfi3
    have x0 := hfi3.c0
    have x1 := hfi3.c1
    have x2 := hfi3.c2
    have x3 := hfi3.c3
    have y0 := hM3.dsk.c 0 rfl
    have z0 := hC3.c 0 rfl
    have z1 := hC3.c 1 rfl
    have z2 := hC3.c 2 rfl
    have z3 := hC3.c 3 rfl
    have v0 := hC3.f 0
    have v1 := hC3.f 1
    have v2 := hC3.f 2
    have v3 := hC3.f 3
    have HM3 := Lib.hid hM3
    have HC3 := Lib.hid hC3
    clear hf hin hg hfi hab a0 a1 a2 r0 r1 r2 q0 q1 q2 hM3 hC3 hfi3 hc hB3
    go_upto_region 11 with fail
    have hM4 := (((HM3.out.put HB0.out hcb 0 (.string (bs f.name))).put HB0.out hcb 1 (.string (bs f.s))).put HB0.out hcb 2 (.int .i64 (f.lasts : Int))).put HB0.out hcb 3 (.bool f.stays)
    have hC4 : Blk _ c (fcells f) 71 := HC3.out.put4 (.string (bs f.name)) (.string (bs f.s)) (.int .i64 (f.lasts : Int)) (.bool f.stays)
    clear x0 x1 x2 x3 y0 z0 z1 z2 z3 v0 v1 v2 v3 HM3 HC3
    generalize (((w3.setCell ⟨c, 0, none⟩ (.string (bs f.name))).setCell ⟨c, 1, none⟩ (.string (bs f.s))).setCell ⟨c, 2, none⟩ (.int .i64 (f.lasts : Int))).setCell ⟨c, 3, none⟩ (.bool f.stays) = w4 at hM4 hC4 ⊢
    have HM4 := Lib.hid hM4
    have HC4 := Lib.hid hC4
    have a0 := hM4.dsk.c 0 rfl
    have a1 := hM4.dsk.c 1 rfl
    have a2 := hM4.dsk.c 2 rfl
    have af0 := hM4.dsk.f 0
    have af1 := hM4.dsk.f 1
    have af2 := hM4.dsk.f 2
    have r0 := hM4.res.c 0 rfl
    have r1 := hM4.res.c 1 rfl
    have r2 := hM4.res.c 2 rfl
    have rf0 := hM4.res.f 0
    have rf1 := hM4.res.f 1
    have rf2 := hM4.res.f 2
    have z0 := hC4.c 0 rfl
    have z1 := hC4.c 1 rfl
    have z2 := hC4.c 2 rfl
    have z3 := hC4.c 3 rfl
    have v0 := hC4.f 0
    have v1 := hC4.f 1
    have v2 := hC4.f 2
    have v3 := hC4.f 3
    obtain ⟨T, hT⟩ : ∃ T, tot (del n L) = T := ⟨_, rfl⟩
    have hTL : T ≤ 4194304 := by have h1 := tot_dle L n; have h2 := HOK.out.tot; simp only at h2; omega
    have hby := bytes_any hM4.row HL.out (by have h2 := HOK.out.tot; simp only at h2; omega) fuse false n
    rw [hT] at hby
    have HBY := Lib.hid hby
    obtain ⟨S, hS⟩ : ∃ S, s.length = S := ⟨_, rfl⟩
    have hSL : S ≤ 1000000 := by omega
    have hss := bs_size s
    rw [hS] at hss
    obtain ⟨Z, hZ⟩ : ∃ Z, f.s.length = Z := ⟨_, rfl⟩
    have hzz := bs_size f.s
    rw [hZ] at hzz
    have hZL : Z ≤ 4194304 := by
      have h1 := tot_old (n := n) HOK.out.sorted
      have h2 := HOK.out.tot
      simp only at h1 h2
      rw [HOL.out, hZ] at h1
      omega
    have HFU : Hid (∀ b : Bool, (get n L).isNone = b → (fullN 4 T S Z L.length b ↔ fullN 4 (tot (del n L)) s.length (old n L).s.length L.length (get n L).isNone)) := Lib.hid (fun b hb => by rw [hb, hT, hS, HOL.out, hZ])
    have HTT := Lib.hid hT
    have HSS := Lib.hid hS
    have HZZ := Lib.hid hZ
    clear hT hby hS hZ hs hM4 hC4
    go_wp2_with fail
    refine (HBY.out).mono ?_
    rintro e w5 ⟨rfl, hb5⟩
    have hM5 := HM4.out.below hb5
    have hC5 := HC4.out.below hb5 HC4.out.lt
    clear a0 a1 a2 af0 af1 af2 r0 r1 r2 rf0 rf1 rf2 z0 z1 z2 z3 v0 v1 v2 v3
    have HM5 := Lib.hid hM5
    have HC5 := Lib.hid hC5
    have a0 := hM5.dsk.c 0 rfl
    have a1 := hM5.dsk.c 1 rfl
    have a2 := hM5.dsk.c 2 rfl
    have af0 := hM5.dsk.f 0
    have af1 := hM5.dsk.f 1
    have af2 := hM5.dsk.f 2
    have r0 := hM5.res.c 0 rfl
    have r1 := hM5.res.c 1 rfl
    have r2 := hM5.res.c 2 rfl
    have rf0 := hM5.res.f 0
    have rf1 := hM5.res.f 1
    have rf2 := hM5.res.f 2
    have z0 := hC5.c 0 rfl
    have z1 := hC5.c 1 rfl
    have z2 := hC5.c 2 rfl
    have z3 := hC5.c 3 rfl
    have v0 := hC5.f 0
    have v1 := hC5.f 1
    have v2 := hC5.f 2
    have v3 := hC5.f 3
    clear hM5 hC5 hb5 HM4 HC4 HBY
    have hQ := leafs (kind := 4) (st_do (kind := 4) (s := s) HOK.out HAK.out (by decide) (fun _ => by rw [HG.out]; rfl) (fun hc => (fun hf => by rcases hf.1 with h1 | h1 <;> exact absurd h1 (by decide)) ((HFU.out false HGN.out).2 hc)))
    simp only [HOL.out] at hQ
    have HQ := Lib.hid hQ
    clear hQ
    have HFB : Hid (-1 ≤ fuse ∧ fuse ≤ 9223372036854775807) := Lib.hid ⟨HOK.out.fuse, HOK.out.top⟩
    have HSL : Hid (L.length ≤ 1000000 ∧ Sorted Fl.name L) := Lib.hid ⟨HL.out, HOK.out.sorted⟩
    by_cases hf0 : fuse = 0
    · subst hf0
      go_wp2_with fail
      obtain ⟨d1, d2, d3⟩ := HM5.out.dn (.bool true)
      obtain ⟨e1, e2, e3⟩ := fin28b (fuse := 0) (down := true) d1 d2 d3 (show b0 ≤ b0 + 1 by omega) HB0.out
      refine bodyPost_ret (v := .tuple #[.agg #[.slice (some ad) L.length cap, .int .i64 0, .bool true], .int .i64 8]) (ret28t rfl rfl rfl e1) rfl (HTO.out _ _ _ _ _ _ _ rfl ?_ e2 e3)
      exact HQ.out.1 (by trivial) (by first | decide | trivial)
    · have g8 : (fuse == 0) = false := by simp [hf0]
      by_cases hfp : 0 < fuse
      · have g9 : decide (0 < fuse) = true := by simp [hfp]
        have hfr := HFB.out.2
        have HFP := Lib.hid hfp
        go_upto_region 24 with fail
        have hM6 := HM5.out.fuse (fuse - 1)
        have hC6 := HC5.out.other (a := ⟨b0, 1, none⟩) (by show c ≠ b0; omega) (.int .i64 (fuse - 1))
        clear a0 a1 a2 af0 af1 af2 r0 r1 r2 rf0 rf1 rf2 z0 z1 z2 z3 v0 v1 v2 v3
        clear HM5 HC5 hfp hfr g9
        obtain ⟨fz, hfz⟩ : ∃ fz, fuse - 1 = fz := ⟨_, rfl⟩
        rw [hfz] at hM6 hC6
        rw [hfz]
        have HQ2 : Hid (stE ⟨L, fuse, false⟩ 4 n s = 0 ∧ stD ⟨L, fuse, false⟩ 4 n s = ⟨stepL 4 n s f L, fz, false⟩) := Lib.hid (by rw [← hfz]; exact HQ.out.2.2.1 HFP.out)
        clear hfz
        generalize w5.setCell ⟨b0, 1, none⟩ (.int .i64 fz) = w6 at hM6 hC6 ⊢
        have a0 := hM6.dsk.c 0 rfl
        have a1 := hM6.dsk.c 1 rfl
        have a2 := hM6.dsk.c 2 rfl
        have af0 := hM6.dsk.f 0
        have af1 := hM6.dsk.f 1
        have af2 := hM6.dsk.f 2
        have r0 := hM6.res.c 0 rfl
        have r1 := hM6.res.c 1 rfl
        have r2 := hM6.res.c 2 rfl
        have rf0 := hM6.res.f 0
        have rf1 := hM6.res.f 1
        have rf2 := hM6.res.f 2
        have z0 := hC6.c 0 rfl
        have z1 := hC6.c 1 rfl
        have z2 := hC6.c 2 rfl
        have z3 := hC6.c 3 rfl
        have v0 := hC6.f 0
        have v1 := hC6.f 1
        have v2 := hC6.f 2
        have v3 := hC6.f 3
        have HM6 := Lib.hid hM6
        have HC6 := Lib.hid hC6
        clear hM6 hC6
        go_wp2_with fail
        refine (without_any HM6.out.row HSL.out.1 fz false n).mono ?_
        rintro e w8 ⟨v8, rfl, hr8, hb8⟩
        have HM8 := Lib.hid (HM6.out.below hb8)
        clear a0 a1 a2 af0 af1 af2 r0 r1 r2 rf0 rf1 rf2 z0 z1 z2 z3 v0 v1 v2 v3
        clear HM6 HC6 hb8
        obtain ⟨q8, cap8, rfl⟩ := hr8.len
        obtain ⟨n8, hn8⟩ : ∃ n8, (del n L).length = n8 := ⟨_, rfl⟩
        rw [hn8] at hr8
        rw [hn8]
        have HR8 := Lib.hid (hr8.mono (Nat.zero_le _))
        clear hn8 hr8
        have a0 := HM8.out.dsk.c 0 rfl
        have a1 := HM8.out.dsk.c 1 rfl
        have a2 := HM8.out.dsk.c 2 rfl
        have af0 := HM8.out.dsk.f 0
        have af1 := HM8.out.dsk.f 1
        have af2 := HM8.out.dsk.f 2
        have r0 := HM8.out.res.c 0 rfl
        have r1 := HM8.out.res.c 1 rfl
        have r2 := HM8.out.res.c 2 rfl
        have rf0 := HM8.out.res.f 0
        have rf1 := HM8.out.res.f 1
        have rf2 := HM8.out.res.f 2
        go_wp2_with fail
        obtain ⟨e1, e2, e3⟩ := fin28b (fuse := fz) (down := false) HM8.out.res HR8.out HM8.out.bw (show b0 ≤ b0 + 1 by omega) HB0.out
        refine bodyPost_ret (v := .tuple #[.agg #[.slice q8 n8 cap8, .int .i64 fz, .bool false], .int .i64 0]) (ret28t rfl rfl rfl e1) rfl (HTO.out _ _ _ _ _ _ _ rfl ?_ e2 e3)
        exact HQ2.out
      · obtain rfl : fuse = -1 := by have := HFB.out.1; omega
        have HQ2 : Hid (stE ⟨L, -1, false⟩ 4 n s = 0 ∧ stD ⟨L, -1, false⟩ 4 n s = ⟨stepL 4 n s f L, -1, false⟩) := Lib.hid (HQ.out.2.2.2 rfl)
        clear g8 hf0 hfp
        have g9 : decide ((0 : Int) < -1) = false := by decide
        go_upto_region 24 with fail
        have hM6 := HM5.out
        have hC6 := HC5.out
        clear a0 a1 a2 af0 af1 af2 r0 r1 r2 rf0 rf1 rf2 z0 z1 z2 z3 v0 v1 v2 v3
        clear HM5 HC5 g9
        generalize w5 = w6 at hM6 hC6 ⊢
        have a0 := hM6.dsk.c 0 rfl
        have a1 := hM6.dsk.c 1 rfl
        have a2 := hM6.dsk.c 2 rfl
        have af0 := hM6.dsk.f 0
        have af1 := hM6.dsk.f 1
        have af2 := hM6.dsk.f 2
        have r0 := hM6.res.c 0 rfl
        have r1 := hM6.res.c 1 rfl
        have r2 := hM6.res.c 2 rfl
        have rf0 := hM6.res.f 0
        have rf1 := hM6.res.f 1
        have rf2 := hM6.res.f 2
        have z0 := hC6.c 0 rfl
        have z1 := hC6.c 1 rfl
        have z2 := hC6.c 2 rfl
        have z3 := hC6.c 3 rfl
        have v0 := hC6.f 0
        have v1 := hC6.f 1
        have v2 := hC6.f 2
        have v3 := hC6.f 3
        have HM6 := Lib.hid hM6
        have HC6 := Lib.hid hC6
        clear hM6 hC6
        go_wp2_with fail
        refine (without_any HM6.out.row HSL.out.1 (-1) false n).mono ?_
        rintro e w8 ⟨v8, rfl, hr8, hb8⟩
        have HM8 := Lib.hid (HM6.out.below hb8)
        clear a0 a1 a2 af0 af1 af2 r0 r1 r2 rf0 rf1 rf2 z0 z1 z2 z3 v0 v1 v2 v3
        clear HM6 HC6 hb8
        obtain ⟨q8, cap8, rfl⟩ := hr8.len
        obtain ⟨n8, hn8⟩ : ∃ n8, (del n L).length = n8 := ⟨_, rfl⟩
        rw [hn8] at hr8
        rw [hn8]
        have HR8 := Lib.hid (hr8.mono (Nat.zero_le _))
        clear hn8 hr8
        have a0 := HM8.out.dsk.c 0 rfl
        have a1 := HM8.out.dsk.c 1 rfl
        have a2 := HM8.out.dsk.c 2 rfl
        have af0 := HM8.out.dsk.f 0
        have af1 := HM8.out.dsk.f 1
        have af2 := HM8.out.dsk.f 2
        have r0 := HM8.out.res.c 0 rfl
        have r1 := HM8.out.res.c 1 rfl
        have r2 := HM8.out.res.c 2 rfl
        have rf0 := HM8.out.res.f 0
        have rf1 := HM8.out.res.f 1
        have rf2 := HM8.out.res.f 2
        go_wp2_with fail
        obtain ⟨e1, e2, e3⟩ := fin28b (fuse := (-1)) (down := false) HM8.out.res HR8.out HM8.out.bw (show b0 ≤ b0 + 1 by omega) HB0.out
        refine bodyPost_ret (v := .tuple #[.agg #[.slice q8 n8 cap8, .int .i64 (-1), .bool false], .int .i64 0]) (ret28t rfl rfl rfl e1) rfl (HTO.out _ _ _ _ _ _ _ rfl ?_ e2 e3)
        exact HQ2.out
end Go.Proofs.Ytfkefppabjbbdaa
