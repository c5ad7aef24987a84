/- A journal takes payloads up. -/
import Derived.Test.YtghnbkkfghfifaaGreatDoorJo
import Derived.ScopeJumps
import Derived.WalkMore
namespace Go.Proofs.YtghnbkkfghfifaaGreatDoor
open Go.RowKit Go.Maps D
open F (frameL frameL_len)
set_option linter.unusedVariables false
/-- What a payload is. -/
def decOne (p : List UInt8) (e : Ev) : Prop := (p = [] ∧ e = zeroE) ∨ (p ≠ [] ∧ E.decL p = .ok e [])
abbrev PRows (w : World) (base : Nat) (u : Value) (ps : List (List UInt8)) (cs : List Value) : Prop := F.Rows w base u ps cs
theorem lt_of_cell {w : World} {g o : Nat} {u : Value} (h : w.cell? ⟨g, o, none⟩ = some u) : g < w.heap.size := block_lt_of_cell (a := ⟨g, o, none⟩) h
theorem dec_size {p : List UInt8} {e : Ev} (h : E.decL p = .ok e []) : p.length ≤ 1000000000 := by
  obtain ⟨h1, h2⟩ := E.decL_inv h
  have := E.encL_len e (E.fit_of h2)
  rw [List.append_nil] at h1
  rw [← h1]; omega
theorem PRows.keptF {w w' : World} {F : Nat → Prop} {base : Nat} {u : Value} {ps : List (List UInt8)} {cs : List Value} (h : PRows w base u ps cs) (hk : Kept F w w') (hB : ∀ i, base ≤ i → i < w.heap.size → ¬ F i) : PRows w' base u ps cs := by
  have own : ∀ {e : TypeId} {size : Nat} {v : Value} {m : Nat} {ys : List Value}, w.ownsRow base e size v m ys → w'.ownsRow base e size v m ys := by
    intro e size v m ys h
    obtain ⟨h1, h2⟩ := h
    refine ⟨h1, ?_⟩
    rcases h2 with h2 | ⟨g, cap, cur, hv, hg, hh, r⟩
    · exact .inl h2
    · exact .inr ⟨g, cap, cur, hv, hg, by rw [hk.block g (lt_of_block hh) (hB g hg (lt_of_block hh))]; exact hh, r⟩
  exact ⟨own h.row, fun i c p hc hp => own (h.each i c p hc hp), h.slices⟩
/-- One of the payloads. -/
theorem PRows.at {w : World} {base : Nat} {u : Value} {ps : List (List UInt8)} {cs : List Value} (h : PRows w base u ps cs) {k : Nat} (hk : k < ps.length) : ∃ g cap c q m, u = .slice (some ⟨g, 0, none⟩) ps.length cap ∧ w.cell? ⟨g, k, none⟩ = some c ∧ c = .slice q ps[k].length m ∧ OwnB w base c ps[k] := by
  have hrow := h.row
  rcases hrow.2 with ⟨h1, h2⟩ | ⟨g, cap, cur, rfl, hg, hh, r⟩
  · omega
  · have hlen : cs.length = ps.length := by have := hrow.1; omega
    have hc : cs[k]? = some cs[k] := List.getElem?_eq_getElem (by omega)
    have ho := h.each k cs[k] ps[k] hc (List.getElem?_eq_getElem hk)
    have hcell := World.ownsRow.cells hrow rfl k _ hc
    rw [add_zero8] at hcell
    obtain ⟨q, m, hq⟩ := D.OwnB.len ho
    exact ⟨g, cap, cs[k], q, m, rfl, hcell, hq, ho⟩
theorem set_cells8 (w : World) (b : Nat) (x : Ev) : w.setCells b 0 (evL x) = (((((((w.setCell ⟨b, 0, none⟩ (.string x.s)).setCell ⟨b, 1, none⟩ (.int .i64 x.n)).setCell ⟨b, 2, none⟩ (.int .i64 x.a)).setCell ⟨b, 3, none⟩ (.int .i64 x.k)).setCell ⟨b, 4, none⟩ (.string x.p)).setCell ⟨b, 5, none⟩ (.string x.i)).setCell ⟨b, 6, none⟩ (.int .i64 x.v)).setCell ⟨b, 7, none⟩ (.string x.t) := rfl
theorem blk_set8 {w : World} {b : Nat} {y : Ev} (h : Blk w b (evL y) 52) (x : Ev) : Blk (w.setCells b 0 (evL x)) b (evL x) 52 := by
  rw [set_cells8]
  exact (((((((h.set 0 (.string x.s)).set 1 (.int .i64 x.n)).set 2 (.int .i64 x.a)).set 3 (.int .i64 x.k)).set 4 (.string x.p)).set 5 (.string x.i)).set 6 (.int .i64 x.v)).set 7 (.string x.t)
section
variable {w : World} {F : Nat → Prop} {d l : Nat} {n : List UInt8} {per : Nat} {v : Value} {j : Jn Ev}
set_option maxRecDepth 100000 in
set_option maxHeartbeats 2000000 in
theorem take_any (hF : ∀ i, w.heap.size ≤ i → F i) (h : LogM w F d l n per v j) (base : Nat) (uv : Value) (ps : List (List UInt8)) (cs : List Value) (hr : PRows w base uv ps cs) (hB : ∀ i, base ≤ i → i < w.heap.size → ¬ F i) (xs : List Ev) (hx : xs.length = ps.length) (hd : ∀ (i : Nat) (h1 : i < ps.length) (h2 : i < xs.length), decOne ps[i] xs[i]) (hl : j.es.length + ps.length ≤ 1048576) :
    Calls Tryz.prog 84 #[.pointer (some ⟨l, 0, none⟩), uv] w fun e w' => ∃ v', e = .returned (.int .i64 0) ∧ LogM w' F d l n per v' ⟨j.dk, j.files, j.es ++ xs, j.lasts, j.stuck⟩ ∧ Kept F w w' := by
  obtain ⟨N, hN⟩ : ∃ N, ps.length = N := ⟨_, rfl⟩
  have HM := Lib.hid h
  have HF := Lib.hid hF
  have HR := Lib.hid hr
  have HB := Lib.hid hB
  have HX := Lib.hid hx
  have HD := Lib.hid hd
  have HN := Lib.hid hN
  have HLL := Lib.hid hl
  obtain ⟨qu, cu, huv⟩ : ∃ qu cu, uv = .slice qu N cu := by
    rcases hr.row.2 with ⟨h1, h2⟩ | ⟨g, cap, cur, h1, _⟩
    · exact ⟨none, 0, by rw [h1, ← hN, h2]⟩
    · exact ⟨_, cap, by rw [h1, hN]⟩
  subst huv
  have hNb : N ≤ 1048576 := by omega
  clear h hF hr hB hx hd hN hl
  go_enter Tryz.func84, Tryz.ntmps84
  go_wp2_with fail
  refine wp_scope_jumps 0 (fun a' w' => ∃ (k : Nat) (v' : Value) (u2 u3 u4 u6 u7 u8 u9 u10 u11 u12 u13 u14 u15 u16 u17 u18 u19 u20 u21 u22 u23 u24 u25 u26 u27 u28 u29 u30 u31 u32 u33 u34 u35 u36 u37 u38 u39 u40 u41 u42 u43 u44 u45 u46 u47 u48 : Value), a' = { tmps := #[.pointer (some ⟨l, 0, none⟩), .slice qu N cu, u2, u3, u4, .int .i64 (k : Int), u6, u7, u8, u9, u10, u11, u12, u13, u14, u15, u16, u17, u18, u19, u20, u21, u22, u23, u24, u25, u26, u27, u28, u29, u30, u31, u32, u33, u34, u35, u36, u37, u38, u39, u40, u41, u42, u43, u44, u45, u46, u47, u48], defers := [] } ∧ k ≤ N ∧ Hid (LogM w' F d l n per v' ⟨j.dk, j.files, j.es ++ xs.take k, j.lasts, j.stuck⟩) ∧ Hid (Kept F w w')) (fun a' _ => N - (intOf (a'.tmps.getD 5 undef)).toNat) rfl ?_ ?_
  · go_wp2_with fail
    go_step3
    generalize hz : (Value.int IntKind.i64 0 : Value) = z
    obtain ⟨k, hk0, rfl⟩ : ∃ k : Nat, k = 0 ∧ z = .int .i64 (k : Int) := ⟨0, rfl, hz.symm⟩
    clear hz
    have hk : k ≤ N := by omega
    have HMr : Hid (LogM w F d l n per v ⟨j.dk, j.files, j.es ++ xs.take k, j.lasts, j.stuck⟩) := Lib.hid (by rw [hk0, List.take_zero, List.append_nil]; exact HM.out)
    have HKr : Hid (Kept F w w) := Lib.hid (Kept.refl _ _)
    clear hk0
    by_cases hlt : k < N
    · have hks : k < ps.length := by rw [HN.out]; exact hlt
      have hxs : k < xs.length := by rw [HX.out]; exact hks
      have hT : xs.take k ++ [xs[k]] = xs.take (k + 1) := (List.take_succ_eq_append_getElem hxs).symm
      have hpr := PRows.keptF HR.out HKr.out HB.out
      obtain ⟨gu, capu, c, qc, mc, hu, hcell, hcq, hown⟩ := hpr.at hks
      have hdec := HD.out k hks hxs
      obtain ⟨x, hx⟩ : ∃ x, xs[k] = x := ⟨_, rfl⟩
      obtain ⟨p, hp⟩ : ∃ p, ps[k] = p := ⟨_, rfl⟩
      rw [hx] at hT hdec
      rw [hp] at hdec hcq hown
      have HT := Lib.hid hT
      obtain ⟨b6, hb6⟩ : ∃ b, w.heap.size = b := ⟨_, rfl⟩
      have hm2 : LogM w (fun i => F i ∧ i ≠ b6) d l n per v ⟨j.dk, j.files, j.es ++ xs.take k, j.lasts, j.stuck⟩ := HMr.out.mono (fun i hi hs => ⟨hi, by omega⟩) (fun i hi => HM.out.seven i hi.1)
      have hm3 := hm2.alloc (.cells #[.string ⟨#[]⟩, .int .i64 0, .int .i64 0, .int .i64 0, .string ⟨#[]⟩, .string ⟨#[]⟩, .int .i64 0, .string ⟨#[]⟩] 52)
      have hk3 : Kept F w (w.alloc (.cells #[.string ⟨#[]⟩, .int .i64 0, .int .i64 0, .int .i64 0, .string ⟨#[]⟩, .string ⟨#[]⟩, .int .i64 0, .string ⟨#[]⟩] 52)) := (Kept.refl F w).alloc _
      rw [HN.out] at hu
      cases hu
      have hgl : gu < w.heap.size := lt_of_cell hcell
      subst hcq
      clear hT hks hxs hx hp hpr hm2
      rcases hdec with ⟨rfl, rfl⟩ | ⟨hne, hde⟩
      · have hb0 : Blk (w.alloc (.cells #[.string ⟨#[]⟩, .int .i64 0, .int .i64 0, .int .i64 0, .string ⟨#[]⟩, .string ⟨#[]⟩, .int .i64 0, .string ⟨#[]⟩] 52)) b6 (evL zeroE) 52 := by rw [← hb6]; exact Blk.new w (evL zeroE) 52
        have HM3 := Lib.hid hm3
        have HX3 := Lib.hid hb0
        have HK3 := Lib.hid hk3
        have HB6 := Lib.hid hb6
        have hkN : ((k : Int) == (N : Int)) = false := by simp; omega
        clear hm3 hb0 hk3 hown hb6
        go_wp2_with fail
        rw [HB6.out]
        clear HB6
        revert HM3 HX3 HK3
        generalize w.alloc (.cells #[.string ⟨#[]⟩, .int .i64 0, .int .i64 0, .int .i64 0, .string ⟨#[]⟩, .string ⟨#[]⟩, .int .i64 0, .string ⟨#[]⟩] 52) = w3
        intro HM3 HX3 HK3
        obtain ⟨x, hx⟩ : ∃ x : Ev, x = zeroE := ⟨_, rfl⟩
        have hX3 : Blk w3 b6 (evL x) 52 := by rw [hx]; exact HX3.out
        have hT3 : xs.take k ++ [x] = xs.take (k + 1) := by rw [hx]; exact HT.out
        clear HX3 HT hx
        have HX3 := Lib.hid hX3
        have HT := Lib.hid hT3
        clear hX3 hT3
        -- the append; in the context: w3, HM3 : LogM w3 F2 .. , HX3 : Blk w3 b6 (evL x) 52, HK3 : Kept F w w3
        obtain ⟨q4, cap4, hv4⟩ := HM3.out.row.len
        have c4 := HM3.out.self.c 4 rfl
        have f4 := HM3.out.self.f 4
        obtain ⟨L, hL⟩ : ∃ L, (j.es ++ xs.take k).length = L := ⟨_, rfl⟩
        simp only at hv4
        rw [hL] at hv4
        rw [hv4] at c4
        have x0 := HX3.out.c 0 rfl
        have x1 := HX3.out.c 1 rfl
        have x2 := HX3.out.c 2 rfl
        have x3 := HX3.out.c 3 rfl
        have x4 := HX3.out.c 4 rfl
        have x5 := HX3.out.c 5 rfl
        have x6 := HX3.out.c 6 rfl
        have x7 := HX3.out.c 7 rfl
        have o2 : (w3.alloc (.cells #[.string x.s, .int .i64 x.n, .int .i64 x.a, .int .i64 x.k, .string x.p, .string x.i, .int .i64 x.v, .string x.t] 52)).drew.cell? ⟨l, 4, none⟩ = some (.slice q4 L cap4) := by
          have := ((HM3.out.drew).alloc (.cells #[.string x.s, .int .i64 x.n, .int .i64 x.a, .int .i64 x.k, .string x.p, .string x.i, .int .i64 x.v, .string x.t] 52)).self.c 4 rfl
          rw [hv4] at this
          exact this
        have HD3 := Lib.hid HM3.out.drew
        have HF9 : Hid (∀ i, w3.drew.heap.size ≤ i → F i ∧ i ≠ b6) := Lib.hid (fun i hi => ⟨HF.out i (Nat.le_trans HKr.out.size (Nat.le_trans HK3.out.size hi)), by have := HX3.out.lt; have : w3.heap.size ≤ i := hi; omega⟩)
        have HLL2 : Hid ((j.es ++ xs.take k).length + 1 ≤ 1048576) := Lib.hid (by rw [List.length_append, List.length_take]; have := HLL.out; have := HN.out; omega)
        have HV4 := Lib.hid hv4
        have HLV := Lib.hid hL
        clear hv4 hL
        obtain ⟨i0, hi0, hz0, hz1, hz2⟩ := info52_parts
        go_region_law (refine step_append_lies _ rfl (.tmp 41) (.tmp 43) 62 rfl 0 52 i0 _ 8 96 Tryz.underlying62 hi0 hz0 hz1 hz2 rfl (by decide) (.slice q4 L cap4) L (evsL (j.es ++ xs.take k)) rfl (by have h1 := (HD3.out.alloc (.cells #[.string x.s, .int .i64 x.n, .int .i64 x.a, .int .i64 x.k, .string x.p, .string x.i, .int .i64 x.v, .string x.t] 52)).row; unfold EvRow at h1; simp only at h1; rw [HLV.out] at h1; rw [HV4.out] at h1; exact h1) ⟨w3.heap.size, 0, none⟩ 1 1 (evL x) rfl rfl (news_of (w := w3.drew) x w3.heap.size rfl) (evL_one x) (by decide) (by have := HLL2.out; rw [HLV.out] at this; unfold maxLen; omega) (by have := HLL2.out; rw [HLV.out] at this; omega) (Nat.zero_le _) _ rfl ?_; intro g4 cap5 w4 hown hgr hat hlt3; rw [← HLV.out] at hown; rw [← HV4.out] at hgr hat; obtain ⟨p1, p2, p3⟩ := HD3.out.push HF9.out x HLL2.out hown hgr hat; simp only at p2 p3; rw [HLV.out] at p2 p3; have q3 := p1.c 4 rfl; rw [HV4.out] at q3; have g3 := p1.f 4; have HO4 := Lib.hid p2; have HB4 := Lib.hid p3; clear p1 p2 p3 hown hgr hat)
        all_goals (go_wp2_with fail)
        all_goals (go_step3)
        all_goals
          have hm5 := HO4.out.mono (G := F) (fun i hi _ => hi.1) HM.out.seven
          rw [List.append_assoc, HT.out] at hm5
          have hk5 : Kept F w _ := HKr.out.trans (HK3.out.trans (Kept.drew (Kept.refl F w3) |>.trans (HB4.out.mono (fun i hi => hi.1))))
          exact ⟨rfl, k + 1, _, _, _, _, _, _, _, _, _, _, _, _, _, _, _, _, _, _, _, _, _, _, _, _, _, _, _, _, _, _, _, _, _, _, _, _, _, _, _, _, _, _, _, _, _, _, _, rfl, by omega, Lib.hid hm5, Lib.hid hk5⟩
      · have hpl : 0 < p.length := List.length_pos_iff.2 hne
        have hb0 : Blk (w.alloc (.cells #[.string ⟨#[]⟩, .int .i64 0, .int .i64 0, .int .i64 0, .string ⟨#[]⟩, .string ⟨#[]⟩, .int .i64 0, .string ⟨#[]⟩] 52)) b6 (evL zeroE) 52 := by rw [← hb6]; exact Blk.new w (evL zeroE) 52
        have hlen : p.length ≤ 1000000000 := dec_size hde
        have hcall := E.dec_good (.slice qc p.length mc) p x [] hde (by omega) (w.alloc (.cells #[.string ⟨#[]⟩, .int .i64 0, .int .i64 0, .int .i64 0, .string ⟨#[]⟩, .string ⟨#[]⟩, .int .i64 0, .string ⟨#[]⟩] 52)) hm3.lay (Seen.own (hown.alloc (.cells #[.string ⟨#[]⟩, .int .i64 0, .int .i64 0, .int .i64 0, .string ⟨#[]⟩, .string ⟨#[]⟩, .int .i64 0, .string ⟨#[]⟩] 52)))
        have HM3 := Lib.hid hm3
        have HX3 := Lib.hid hb0
        have HK3 := Lib.hid hk3
        have HCALL := Lib.hid hcall
        have HB6 := Lib.hid hb6
        have hkN : ((k : Int) == (N : Int)) = false := by simp; omega
        have g1 : decide ((0 : Int) < (p.length : Int)) = true := by simp; omega
        clear hm3 hb0 hk3 hown hb6 hcall hde hne
        go_wp2_with fail
        refine (HCALL.out).mono ?_
        rintro e w2 ⟨rfl, hb2⟩
        have hX2 := HX3.out.below hb2 HX3.out.lt
        have HM4 := Lib.hid (HM3.out.below hb2)
        have HK4 := Lib.hid (Kept.bel HK3.out hb2)
        rw [← HB6.out] at hX2
        have y0 := hX2.c 0 rfl
        have y1 := hX2.c 1 rfl
        have y2 := hX2.c 2 rfl
        have y3 := hX2.c 3 rfl
        have y4 := hX2.c 4 rfl
        have y5 := hX2.c 5 rfl
        have y6 := hX2.c 6 rfl
        have y7 := hX2.c 7 rfl
        have f0 := hX2.f 0
        have f1 := hX2.f 1
        have f2 := hX2.f 2
        have f3 := hX2.f 3
        have f4 := hX2.f 4
        have f5 := hX2.f 5
        have f6 := hX2.f 6
        have f7 := hX2.f 7
        have hlt2 : w.heap.size < w2.heap.size := hX2.lt
        have HX2 := Lib.hid hX2
        clear hX2 hb2 HM3 HX3 HK3 HCALL
        go_wp2_with fail
        rw [← set_cells8]
        rw [HB6.out]
        have hX2' : Blk w2 b6 (evL zeroE) 52 := by rw [← HB6.out]; exact HX2.out
        have hX3 := blk_set8 hX2' x
        have hg := grown_setCells b6 (evL x) 0 w2
        have h7 : 7 ≤ b6 := HM.out.seven b6 (HF.out b6 (by rw [← HB6.out]; exact HKr.out.size))
        have hM3 := HM4.out.farF ((Kept.refl (fun i => i = b6) w2).grown hg (fun i hi => .inr (by cases hi; rfl))) (fun i hi _ hb => hi.2 hb) (fun i hi => by rw [hi]; exact h7)
        have hK3 : Kept F w _ := HK4.out.grown hg (fun i hi => .inr (by cases hi; exact HF.out b6 (by rw [← HB6.out]; exact HKr.out.size)))
        have HM3 := Lib.hid (hM3.alloc (.cells #[.string x.s, .int .i64 x.n, .int .i64 x.a, .int .i64 x.k, .string x.p, .string x.i, .int .i64 x.v, .string x.t] 52))
        have HX3 := Lib.hid (hX3.alloc (.cells #[.string x.s, .int .i64 x.n, .int .i64 x.a, .int .i64 x.k, .string x.p, .string x.i, .int .i64 x.v, .string x.t] 52))
        have HK3 := Lib.hid (hK3.alloc (.cells #[.string x.s, .int .i64 x.n, .int .i64 x.a, .int .i64 x.k, .string x.p, .string x.i, .int .i64 x.v, .string x.t] 52))
        clear HB6 y0 y1 y2 y3 y4 y5 y6 y7 f0 f1 f2 f3 f4 f5 f6 f7 hlt2 HX2 HM4 HK4 hM3 hX3 hK3 hg hX2'
        revert HM3 HX3 HK3
        generalize (w2.setCells b6 0 (evL x)).alloc (.cells #[.string x.s, .int .i64 x.n, .int .i64 x.a, .int .i64 x.k, .string x.p, .string x.i, .int .i64 x.v, .string x.t] 52) = w3
        intro HM3 HX3 HK3
        -- the append; in the context: w3, HM3 : LogM w3 F2 .. , HX3 : Blk w3 b6 (evL x) 52, HK3 : Kept F w w3
        obtain ⟨q4, cap4, hv4⟩ := HM3.out.row.len
        have c4 := HM3.out.self.c 4 rfl
        have f4 := HM3.out.self.f 4
        obtain ⟨L, hL⟩ : ∃ L, (j.es ++ xs.take k).length = L := ⟨_, rfl⟩
        simp only at hv4
        rw [hL] at hv4
        rw [hv4] at c4
        have x0 := HX3.out.c 0 rfl
        have x1 := HX3.out.c 1 rfl
        have x2 := HX3.out.c 2 rfl
        have x3 := HX3.out.c 3 rfl
        have x4 := HX3.out.c 4 rfl
        have x5 := HX3.out.c 5 rfl
        have x6 := HX3.out.c 6 rfl
        have x7 := HX3.out.c 7 rfl
        have o2 : (w3.alloc (.cells #[.string x.s, .int .i64 x.n, .int .i64 x.a, .int .i64 x.k, .string x.p, .string x.i, .int .i64 x.v, .string x.t] 52)).drew.cell? ⟨l, 4, none⟩ = some (.slice q4 L cap4) := by
          have := ((HM3.out.drew).alloc (.cells #[.string x.s, .int .i64 x.n, .int .i64 x.a, .int .i64 x.k, .string x.p, .string x.i, .int .i64 x.v, .string x.t] 52)).self.c 4 rfl
          rw [hv4] at this
          exact this
        have HD3 := Lib.hid HM3.out.drew
        have HF9 : Hid (∀ i, w3.drew.heap.size ≤ i → F i ∧ i ≠ b6) := Lib.hid (fun i hi => ⟨HF.out i (Nat.le_trans HKr.out.size (Nat.le_trans HK3.out.size hi)), by have := HX3.out.lt; have : w3.heap.size ≤ i := hi; omega⟩)
        have HLL2 : Hid ((j.es ++ xs.take k).length + 1 ≤ 1048576) := Lib.hid (by rw [List.length_append, List.length_take]; have := HLL.out; have := HN.out; omega)
        have HV4 := Lib.hid hv4
        have HLV := Lib.hid hL
        clear hv4 hL
        obtain ⟨i0, hi0, hz0, hz1, hz2⟩ := info52_parts
        go_region_law (refine step_append_lies _ rfl (.tmp 41) (.tmp 43) 62 rfl 0 52 i0 _ 8 96 Tryz.underlying62 hi0 hz0 hz1 hz2 rfl (by decide) (.slice q4 L cap4) L (evsL (j.es ++ xs.take k)) rfl (by have h1 := (HD3.out.alloc (.cells #[.string x.s, .int .i64 x.n, .int .i64 x.a, .int .i64 x.k, .string x.p, .string x.i, .int .i64 x.v, .string x.t] 52)).row; unfold EvRow at h1; simp only at h1; rw [HLV.out] at h1; rw [HV4.out] at h1; exact h1) ⟨w3.heap.size, 0, none⟩ 1 1 (evL x) rfl rfl (news_of (w := w3.drew) x w3.heap.size rfl) (evL_one x) (by decide) (by have := HLL2.out; rw [HLV.out] at this; unfold maxLen; omega) (by have := HLL2.out; rw [HLV.out] at this; omega) (Nat.zero_le _) _ rfl ?_; intro g4 cap5 w4 hown hgr hat hlt3; rw [← HLV.out] at hown; rw [← HV4.out] at hgr hat; obtain ⟨p1, p2, p3⟩ := HD3.out.push HF9.out x HLL2.out hown hgr hat; simp only at p2 p3; rw [HLV.out] at p2 p3; have q3 := p1.c 4 rfl; rw [HV4.out] at q3; have g3 := p1.f 4; have HO4 := Lib.hid p2; have HB4 := Lib.hid p3; clear p1 p2 p3 hown hgr hat)
        all_goals (go_wp2_with fail)
        all_goals (go_step3)
        all_goals
          have hm5 := HO4.out.mono (G := F) (fun i hi _ => hi.1) HM.out.seven
          rw [List.append_assoc, HT.out] at hm5
          have hk5 : Kept F w _ := HKr.out.trans (HK3.out.trans (Kept.drew (Kept.refl F w3) |>.trans (HB4.out.mono (fun i hi => hi.1))))
          exact ⟨rfl, k + 1, _, _, _, _, _, _, _, _, _, _, _, _, _, _, _, _, _, _, _, _, _, _, _, _, _, _, _, _, _, _, _, _, _, _, _, _, _, _, _, _, _, _, _, _, _, _, _, rfl, by omega, Lib.hid hm5, Lib.hid hk5⟩
    · obtain rfl : k = N := by omega
      have hall : xs.take k = xs := List.take_of_length_le (by rw [HX.out, HN.out]; exact Nat.le_refl _)
      rw [hall] at HMr
      go_wp2_with fail
      simp only [Exit.jump]
      go_ret
      exact ⟨_, rfl, HMr.out, HKr.out⟩

  · rintro a' w' ⟨k, v', u2, u3, u4, u6, u7, u8, u9, u10, u11, u12, u13, u14, u15, u16, u17, u18, u19, u20, u21, u22, u23, u24, u25, u26, u27, u28, u29, u30, u31, u32, u33, u34, u35, u36, u37, u38, u39, u40, u41, u42, u43, u44, u45, u46, u47, u48, rfl, hk, HMr, HKr⟩
    by_cases hlt : k < N
    · have hks : k < ps.length := by rw [HN.out]; exact hlt
      have hxs : k < xs.length := by rw [HX.out]; exact hks
      have hT : xs.take k ++ [xs[k]] = xs.take (k + 1) := (List.take_succ_eq_append_getElem hxs).symm
      have hpr := PRows.keptF HR.out HKr.out HB.out
      obtain ⟨gu, capu, c, qc, mc, hu, hcell, hcq, hown⟩ := hpr.at hks
      have hdec := HD.out k hks hxs
      obtain ⟨x, hx⟩ : ∃ x, xs[k] = x := ⟨_, rfl⟩
      obtain ⟨p, hp⟩ : ∃ p, ps[k] = p := ⟨_, rfl⟩
      rw [hx] at hT hdec
      rw [hp] at hdec hcq hown
      have HT := Lib.hid hT
      obtain ⟨b6, hb6⟩ : ∃ b, w'.heap.size = b := ⟨_, rfl⟩
      have hm2 : LogM w' (fun i => F i ∧ i ≠ b6) d l n per v' ⟨j.dk, j.files, j.es ++ xs.take k, j.lasts, j.stuck⟩ := HMr.out.mono (fun i hi hs => ⟨hi, by omega⟩) (fun i hi => HM.out.seven i hi.1)
      have hm3 := hm2.alloc (.cells #[.string ⟨#[]⟩, .int .i64 0, .int .i64 0, .int .i64 0, .string ⟨#[]⟩, .string ⟨#[]⟩, .int .i64 0, .string ⟨#[]⟩] 52)
      have hk3 : Kept F w' (w'.alloc (.cells #[.string ⟨#[]⟩, .int .i64 0, .int .i64 0, .int .i64 0, .string ⟨#[]⟩, .string ⟨#[]⟩, .int .i64 0, .string ⟨#[]⟩] 52)) := (Kept.refl F w').alloc _
      rw [HN.out] at hu
      cases hu
      have hgl : gu < w'.heap.size := lt_of_cell hcell
      subst hcq
      clear hT hks hxs hx hp hpr hm2
      rcases hdec with ⟨rfl, rfl⟩ | ⟨hne, hde⟩
      · have hb0 : Blk (w'.alloc (.cells #[.string ⟨#[]⟩, .int .i64 0, .int .i64 0, .int .i64 0, .string ⟨#[]⟩, .string ⟨#[]⟩, .int .i64 0, .string ⟨#[]⟩] 52)) b6 (evL zeroE) 52 := by rw [← hb6]; exact Blk.new w' (evL zeroE) 52
        have HM3 := Lib.hid hm3
        have HX3 := Lib.hid hb0
        have HK3 := Lib.hid hk3
        have HB6 := Lib.hid hb6
        have hkN : ((k : Int) == (N : Int)) = false := by simp; omega
        clear hm3 hb0 hk3 hown hb6
        go_wp2_with fail
        rw [HB6.out]
        clear HB6
        revert HM3 HX3 HK3
        generalize w'.alloc (.cells #[.string ⟨#[]⟩, .int .i64 0, .int .i64 0, .int .i64 0, .string ⟨#[]⟩, .string ⟨#[]⟩, .int .i64 0, .string ⟨#[]⟩] 52) = w3
        intro HM3 HX3 HK3
        obtain ⟨x, hx⟩ : ∃ x : Ev, x = zeroE := ⟨_, rfl⟩
        have hX3 : Blk w3 b6 (evL x) 52 := by rw [hx]; exact HX3.out
        have hT3 : xs.take k ++ [x] = xs.take (k + 1) := by rw [hx]; exact HT.out
        clear HX3 HT hx
        have HX3 := Lib.hid hX3
        have HT := Lib.hid hT3
        clear hX3 hT3
        -- the append; in the context: w3, HM3 : LogM w3 F2 .. , HX3 : Blk w3 b6 (evL x) 52, HK3 : Kept F w' w3
        obtain ⟨q4, cap4, hv4⟩ := HM3.out.row.len
        have c4 := HM3.out.self.c 4 rfl
        have f4 := HM3.out.self.f 4
        obtain ⟨L, hL⟩ : ∃ L, (j.es ++ xs.take k).length = L := ⟨_, rfl⟩
        simp only at hv4
        rw [hL] at hv4
        rw [hv4] at c4
        have x0 := HX3.out.c 0 rfl
        have x1 := HX3.out.c 1 rfl
        have x2 := HX3.out.c 2 rfl
        have x3 := HX3.out.c 3 rfl
        have x4 := HX3.out.c 4 rfl
        have x5 := HX3.out.c 5 rfl
        have x6 := HX3.out.c 6 rfl
        have x7 := HX3.out.c 7 rfl
        have o2 : (w3.alloc (.cells #[.string x.s, .int .i64 x.n, .int .i64 x.a, .int .i64 x.k, .string x.p, .string x.i, .int .i64 x.v, .string x.t] 52)).drew.cell? ⟨l, 4, none⟩ = some (.slice q4 L cap4) := by
          have := ((HM3.out.drew).alloc (.cells #[.string x.s, .int .i64 x.n, .int .i64 x.a, .int .i64 x.k, .string x.p, .string x.i, .int .i64 x.v, .string x.t] 52)).self.c 4 rfl
          rw [hv4] at this
          exact this
        have HD3 := Lib.hid HM3.out.drew
        have HF9 : Hid (∀ i, w3.drew.heap.size ≤ i → F i ∧ i ≠ b6) := Lib.hid (fun i hi => ⟨HF.out i (Nat.le_trans HKr.out.size (Nat.le_trans HK3.out.size hi)), by have := HX3.out.lt; have : w3.heap.size ≤ i := hi; omega⟩)
        have HLL2 : Hid ((j.es ++ xs.take k).length + 1 ≤ 1048576) := Lib.hid (by rw [List.length_append, List.length_take]; have := HLL.out; have := HN.out; omega)
        have HV4 := Lib.hid hv4
        have HLV := Lib.hid hL
        clear hv4 hL
        obtain ⟨i0, hi0, hz0, hz1, hz2⟩ := info52_parts
        go_region_law (refine step_append_lies _ rfl (.tmp 41) (.tmp 43) 62 rfl 0 52 i0 _ 8 96 Tryz.underlying62 hi0 hz0 hz1 hz2 rfl (by decide) (.slice q4 L cap4) L (evsL (j.es ++ xs.take k)) rfl (by have h1 := (HD3.out.alloc (.cells #[.string x.s, .int .i64 x.n, .int .i64 x.a, .int .i64 x.k, .string x.p, .string x.i, .int .i64 x.v, .string x.t] 52)).row; unfold EvRow at h1; simp only at h1; rw [HLV.out] at h1; rw [HV4.out] at h1; exact h1) ⟨w3.heap.size, 0, none⟩ 1 1 (evL x) rfl rfl (news_of (w := w3.drew) x w3.heap.size rfl) (evL_one x) (by decide) (by have := HLL2.out; rw [HLV.out] at this; unfold maxLen; omega) (by have := HLL2.out; rw [HLV.out] at this; omega) (Nat.zero_le _) _ rfl ?_; intro g4 cap5 w4 hown hgr hat hlt3; rw [← HLV.out] at hown; rw [← HV4.out] at hgr hat; obtain ⟨p1, p2, p3⟩ := HD3.out.push HF9.out x HLL2.out hown hgr hat; simp only at p2 p3; rw [HLV.out] at p2 p3; have q3 := p1.c 4 rfl; rw [HV4.out] at q3; have g3 := p1.f 4; have HO4 := Lib.hid p2; have HB4 := Lib.hid p3; clear p1 p2 p3 hown hgr hat)
        all_goals (go_wp2_with fail)
        all_goals (go_step3)
        all_goals
          have hm5 := HO4.out.mono (G := F) (fun i hi _ => hi.1) HM.out.seven
          rw [List.append_assoc, HT.out] at hm5
          have hk5 : Kept F w _ := HKr.out.trans (HK3.out.trans (Kept.drew (Kept.refl F w3) |>.trans (HB4.out.mono (fun i hi => hi.1))))
          refine ⟨rfl, ⟨k + 1, _, _, _, _, _, _, _, _, _, _, _, _, _, _, _, _, _, _, _, _, _, _, _, _, _, _, _, _, _, _, _, _, _, _, _, _, _, _, _, _, _, _, _, _, _, _, _, rfl, by omega, Lib.hid hm5, Lib.hid hk5⟩, ?_⟩
          simp [intOf]
          omega
      · have hpl : 0 < p.length := List.length_pos_iff.2 hne
        have hb0 : Blk (w'.alloc (.cells #[.string ⟨#[]⟩, .int .i64 0, .int .i64 0, .int .i64 0, .string ⟨#[]⟩, .string ⟨#[]⟩, .int .i64 0, .string ⟨#[]⟩] 52)) b6 (evL zeroE) 52 := by rw [← hb6]; exact Blk.new w' (evL zeroE) 52
        have hlen : p.length ≤ 1000000000 := dec_size hde
        have hcall := E.dec_good (.slice qc p.length mc) p x [] hde (by omega) (w'.alloc (.cells #[.string ⟨#[]⟩, .int .i64 0, .int .i64 0, .int .i64 0, .string ⟨#[]⟩, .string ⟨#[]⟩, .int .i64 0, .string ⟨#[]⟩] 52)) hm3.lay (Seen.own (hown.alloc (.cells #[.string ⟨#[]⟩, .int .i64 0, .int .i64 0, .int .i64 0, .string ⟨#[]⟩, .string ⟨#[]⟩, .int .i64 0, .string ⟨#[]⟩] 52)))
        have HM3 := Lib.hid hm3
        have HX3 := Lib.hid hb0
        have HK3 := Lib.hid hk3
        have HCALL := Lib.hid hcall
        have HB6 := Lib.hid hb6
        have hkN : ((k : Int) == (N : Int)) = false := by simp; omega
        have g1 : decide ((0 : Int) < (p.length : Int)) = true := by simp; omega
        clear hm3 hb0 hk3 hown hb6 hcall hde hne
        go_wp2_with fail
        refine (HCALL.out).mono ?_
        rintro e w2 ⟨rfl, hb2⟩
        have hX2 := HX3.out.below hb2 HX3.out.lt
        have HM4 := Lib.hid (HM3.out.below hb2)
        have HK4 := Lib.hid (Kept.bel HK3.out hb2)
        rw [← HB6.out] at hX2
        have y0 := hX2.c 0 rfl
        have y1 := hX2.c 1 rfl
        have y2 := hX2.c 2 rfl
        have y3 := hX2.c 3 rfl
        have y4 := hX2.c 4 rfl
        have y5 := hX2.c 5 rfl
        have y6 := hX2.c 6 rfl
        have y7 := hX2.c 7 rfl
        have f0 := hX2.f 0
        have f1 := hX2.f 1
        have f2 := hX2.f 2
        have f3 := hX2.f 3
        have f4 := hX2.f 4
        have f5 := hX2.f 5
        have f6 := hX2.f 6
        have f7 := hX2.f 7
        have hlt2 : w'.heap.size < w2.heap.size := hX2.lt
        have HX2 := Lib.hid hX2
        clear hX2 hb2 HM3 HX3 HK3 HCALL
        go_wp2_with fail
        rw [← set_cells8]
        rw [HB6.out]
        have hX2' : Blk w2 b6 (evL zeroE) 52 := by rw [← HB6.out]; exact HX2.out
        have hX3 := blk_set8 hX2' x
        have hg := grown_setCells b6 (evL x) 0 w2
        have h7 : 7 ≤ b6 := HM.out.seven b6 (HF.out b6 (by rw [← HB6.out]; exact HKr.out.size))
        have hM3 := HM4.out.farF ((Kept.refl (fun i => i = b6) w2).grown hg (fun i hi => .inr (by cases hi; rfl))) (fun i hi _ hb => hi.2 hb) (fun i hi => by rw [hi]; exact h7)
        have hK3 : Kept F w' _ := HK4.out.grown hg (fun i hi => .inr (by cases hi; exact HF.out b6 (by rw [← HB6.out]; exact HKr.out.size)))
        have HM3 := Lib.hid (hM3.alloc (.cells #[.string x.s, .int .i64 x.n, .int .i64 x.a, .int .i64 x.k, .string x.p, .string x.i, .int .i64 x.v, .string x.t] 52))
        have HX3 := Lib.hid (hX3.alloc (.cells #[.string x.s, .int .i64 x.n, .int .i64 x.a, .int .i64 x.k, .string x.p, .string x.i, .int .i64 x.v, .string x.t] 52))
        have HK3 := Lib.hid (hK3.alloc (.cells #[.string x.s, .int .i64 x.n, .int .i64 x.a, .int .i64 x.k, .string x.p, .string x.i, .int .i64 x.v, .string x.t] 52))
        clear HB6 y0 y1 y2 y3 y4 y5 y6 y7 f0 f1 f2 f3 f4 f5 f6 f7 hlt2 HX2 HM4 HK4 hM3 hX3 hK3 hg hX2'
        revert HM3 HX3 HK3
        generalize (w2.setCells b6 0 (evL x)).alloc (.cells #[.string x.s, .int .i64 x.n, .int .i64 x.a, .int .i64 x.k, .string x.p, .string x.i, .int .i64 x.v, .string x.t] 52) = w3
        intro HM3 HX3 HK3
        -- the append; in the context: w3, HM3 : LogM w3 F2 .. , HX3 : Blk w3 b6 (evL x) 52, HK3 : Kept F w' w3
        obtain ⟨q4, cap4, hv4⟩ := HM3.out.row.len
        have c4 := HM3.out.self.c 4 rfl
        have f4 := HM3.out.self.f 4
        obtain ⟨L, hL⟩ : ∃ L, (j.es ++ xs.take k).length = L := ⟨_, rfl⟩
        simp only at hv4
        rw [hL] at hv4
        rw [hv4] at c4
        have x0 := HX3.out.c 0 rfl
        have x1 := HX3.out.c 1 rfl
        have x2 := HX3.out.c 2 rfl
        have x3 := HX3.out.c 3 rfl
        have x4 := HX3.out.c 4 rfl
        have x5 := HX3.out.c 5 rfl
        have x6 := HX3.out.c 6 rfl
        have x7 := HX3.out.c 7 rfl
        have o2 : (w3.alloc (.cells #[.string x.s, .int .i64 x.n, .int .i64 x.a, .int .i64 x.k, .string x.p, .string x.i, .int .i64 x.v, .string x.t] 52)).drew.cell? ⟨l, 4, none⟩ = some (.slice q4 L cap4) := by
          have := ((HM3.out.drew).alloc (.cells #[.string x.s, .int .i64 x.n, .int .i64 x.a, .int .i64 x.k, .string x.p, .string x.i, .int .i64 x.v, .string x.t] 52)).self.c 4 rfl
          rw [hv4] at this
          exact this
        have HD3 := Lib.hid HM3.out.drew
        have HF9 : Hid (∀ i, w3.drew.heap.size ≤ i → F i ∧ i ≠ b6) := Lib.hid (fun i hi => ⟨HF.out i (Nat.le_trans HKr.out.size (Nat.le_trans HK3.out.size hi)), by have := HX3.out.lt; have : w3.heap.size ≤ i := hi; omega⟩)
        have HLL2 : Hid ((j.es ++ xs.take k).length + 1 ≤ 1048576) := Lib.hid (by rw [List.length_append, List.length_take]; have := HLL.out; have := HN.out; omega)
        have HV4 := Lib.hid hv4
        have HLV := Lib.hid hL
        clear hv4 hL
        obtain ⟨i0, hi0, hz0, hz1, hz2⟩ := info52_parts
        go_region_law (refine step_append_lies _ rfl (.tmp 41) (.tmp 43) 62 rfl 0 52 i0 _ 8 96 Tryz.underlying62 hi0 hz0 hz1 hz2 rfl (by decide) (.slice q4 L cap4) L (evsL (j.es ++ xs.take k)) rfl (by have h1 := (HD3.out.alloc (.cells #[.string x.s, .int .i64 x.n, .int .i64 x.a, .int .i64 x.k, .string x.p, .string x.i, .int .i64 x.v, .string x.t] 52)).row; unfold EvRow at h1; simp only at h1; rw [HLV.out] at h1; rw [HV4.out] at h1; exact h1) ⟨w3.heap.size, 0, none⟩ 1 1 (evL x) rfl rfl (news_of (w := w3.drew) x w3.heap.size rfl) (evL_one x) (by decide) (by have := HLL2.out; rw [HLV.out] at this; unfold maxLen; omega) (by have := HLL2.out; rw [HLV.out] at this; omega) (Nat.zero_le _) _ rfl ?_; intro g4 cap5 w4 hown hgr hat hlt3; rw [← HLV.out] at hown; rw [← HV4.out] at hgr hat; obtain ⟨p1, p2, p3⟩ := HD3.out.push HF9.out x HLL2.out hown hgr hat; simp only at p2 p3; rw [HLV.out] at p2 p3; have q3 := p1.c 4 rfl; rw [HV4.out] at q3; have g3 := p1.f 4; have HO4 := Lib.hid p2; have HB4 := Lib.hid p3; clear p1 p2 p3 hown hgr hat)
        all_goals (go_wp2_with fail)
        all_goals (go_step3)
        all_goals
          have hm5 := HO4.out.mono (G := F) (fun i hi _ => hi.1) HM.out.seven
          rw [List.append_assoc, HT.out] at hm5
          have hk5 : Kept F w _ := HKr.out.trans (HK3.out.trans (Kept.drew (Kept.refl F w3) |>.trans (HB4.out.mono (fun i hi => hi.1))))
          refine ⟨rfl, ⟨k + 1, _, _, _, _, _, _, _, _, _, _, _, _, _, _, _, _, _, _, _, _, _, _, _, _, _, _, _, _, _, _, _, _, _, _, _, _, _, _, _, _, _, _, _, _, _, _, _, rfl, by omega, Lib.hid hm5, Lib.hid hk5⟩, ?_⟩
          simp [intOf]
          omega
    · obtain rfl : k = N := by omega
      have hall : xs.take k = xs := List.take_of_length_le (by rw [HX.out, HN.out]; exact Nat.le_refl _)
      rw [hall] at HMr
      go_wp2_with fail
      simp only [Exit.jump]
      go_ret
      exact ⟨_, rfl, HMr.out, HKr.out⟩

end
end Go.Proofs.YtghnbkkfghfifaaGreatDoor
