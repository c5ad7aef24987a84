/- The document's answer: a new disk; a fuse; a list of files without one. -/
import Derived.Test.YtfkefppabjbbdaaFa
import Derived.BigRegion
import Derived.Laws.Rows
import Derived.Deep.RegionLaw
namespace Go.Proofs.Ytfkefppabjbbdaa
open Go.RowKit Go.Maps
set_option linter.unusedVariables false
theorem ret28 {fn : Func} {p : Tmp} (h : fn.results = #[.cell p 28]) {tmps : Array Value} {w : World} {g : Nat} {a b c : Value} (hp : tmps.getD p undef = .pointer (some ⟨g, 0, none⟩)) (hb : Blk w g [a, b, c] 28) :
    (results fn tmps).run Try.prog w = .ok (.agg #[a, b, c]) w := results_cell_row h tmps w g 28 #[a, b, c] (0, 0) _ hp hb Try.underlying28 rfl (by kernel_rfl)
set_option maxRecDepth 100000 in
theorem new_ref (w : World) : Calls Try.prog 29 #[] w fun e w' => e = .returned (.agg #[.slice none 0 0, .int .i64 (-1), .bool false]) ∧ Below w.heap.size w w' := by
  go_enter Try.func29, Try.ntmps29
  go_wp2
  refine bodyPost_ret (v := .agg #[.slice none 0 0, .int .i64 (-1), .bool false]) (ret28 rfl rfl (Blk.new w [_, _, _] 28)) rfl ⟨rfl, ?_⟩
  exact (Below.refl _ w).alloc (Nat.le_refl _) _
set_option maxRecDepth 100000 in
theorem arm_ref (w : World) (q : Option Addr) (n cap : Nat) (fuse m : Int) (down : Bool) : Calls Try.prog 31 #[.agg #[.slice q n cap, .int .i64 fuse, .bool down], .int .i64 m] w fun e w' => e = .returned (.agg #[.slice q n cap, .int .i64 (max m (-1)), .bool down]) ∧ Below w.heap.size w w' := by
  by_cases hm : m < 0
  · have h1 : decide (m < 0) = true := by simp [hm]
    have h2 : max m (-1) = -1 := by omega
    rw [h2]
    clear h2
    go_enter Try.func31, Try.ntmps31
    go_wp2
    refine bodyPost_ret (v := .agg #[.slice q n cap, .int .i64 (-1), .bool down]) (ret28 rfl rfl (Blk.at (by simp) [_, _, _] 28)) rfl ⟨rfl, ?_⟩
    exact ((Below.refl _ w).alloc (Nat.le_refl _) _).alloc (by simp) _
  · have h1 : decide (m < 0) = false := by simp; omega
    have h2 : max m (-1) = m := by omega
    rw [h2]
    clear h2
    go_enter Try.func31, Try.ntmps31
    go_wp2
    refine bodyPost_ret (v := .agg #[.slice q n cap, .int .i64 m, .bool down]) (ret28 rfl rfl (Blk.at (by simp) [_, _, _] 28)) rfl ⟨rfl, ?_⟩
    exact ((Below.refl _ w).alloc (Nat.le_refl _) _).alloc (by simp) _
theorem info71 : (Try.prog.info? 71).map (fun i => (i.zero, i.size, i.bytes)) = some (some (.agg #[.string ⟨#[]⟩, .string ⟨#[]⟩, .int .i64 0, .bool false]), 4, 48) := by kernel_rfl
theorem info71_parts : ∃ i, Try.prog.info? 71 = some i ∧ i.zero = some (.agg #[.string ⟨#[]⟩, .string ⟨#[]⟩, .int .i64 0, .bool false]) ∧ i.size = 4 ∧ i.bytes = 48 := info_parts info71
theorem fcells_one (f : Fl) : ∀ u ∈ fcells f, u.oneCell' = true := by
  intro u hu
  simp only [fcells, List.mem_cons, List.not_mem_nil, or_false] at hu
  rcases hu with rfl | rfl | rfl | rfl <;> rfl
/-- A disk that is being made: its cells, and its files. -/
structure Out (w : World) (ob : Nat) (q : Option Addr) (n cap : Nat) (fuse : Int) (down : Bool) (L : List Fl) : Prop where
  self : Blk w ob [.slice q n cap, .int .i64 fuse, .bool down] 28
  row : Files w (ob + 1) (.slice q n cap) L
theorem Out.len {w : World} {ob : Nat} {q : Option Addr} {n cap : Nat} {fuse : Int} {down : Bool} {L : List Fl} (h : Out w ob q n cap fuse down L) : n = L.length := by
  obtain ⟨q', cap', e⟩ := h.row.len
  cases e
  rfl
theorem files_ne {w : World} {base b : Nat} {v : Value} {L : List Fl} {cs : List Value} {t : TypeId} (h : Files w base v L) (hb : Blk w b cs t) (ht : t ≠ 71) : v.ownBlock ≠ some b := by
  intro hg
  rcases h.2 with ⟨rfl, _⟩ | ⟨g, cap, cur, rfl, _, hh, _⟩
  · cases hg
  · cases hg
    unfold Blk at hb
    rw [hb] at hh
    cases hh
    exact ht rfl
/-- One file more. -/
theorem Out.put {w w3 : World} {ob : Nat} {q : Option Addr} {n cap g cap2 : Nat} {fuse : Int} {down : Bool} {L : List Fl} (h : Out w ob q n cap fuse down L) (f : Fl) (hown : w3.ownsRow (ob + 1) 71 4 (.slice (some ⟨g, 0, none⟩) (n + 1) cap2) (n + 1) (fls L ++ fcells f))
    (hgr : (w.alloc (.cells #[.string (bs f.name), .string (bs f.s), .int .i64 (f.lasts : Int), .bool f.stays] 71)).grownBy w3 (Value.ownBlock (.slice q n cap))) :
      Blk w3 ob [.slice q n cap, .int .i64 fuse, .bool down] 28 ∧ Out (w3.setCell ⟨ob, 0, none⟩ (.slice (some ⟨g, 0, none⟩) (n + 1) cap2)) ob (some ⟨g, 0, none⟩) (n + 1) cap2 fuse down (L ++ [f]) ∧ Below ob w (w3.setCell ⟨ob, 0, none⟩ (.slice (some ⟨g, 0, none⟩) (n + 1) cap2)) := by
  have hn := h.len
  subst hn
  have hlt := h.self.lt
  have hA := h.row.alloc (.cells #[.string (bs f.name), .string (bs f.s), .int .i64 (f.lasts : Int), .bool f.stays] 71)
  have hs1 := (h.self.alloc (.cells #[.string (bs f.name), .string (bs f.s), .int .i64 (f.lasts : Int), .bool f.stays] 71))
  have hs3 := hs1.kept hgr (fun e => files_ne hA hs1 (by decide) e.symm)
  have hf : Files w3 (ob + 1) (.slice (some ⟨g, 0, none⟩) (L.length + 1) cap2) (L ++ [f]) := by
    have e1 : (L ++ [f]).length = L.length + 1 := by simp
    have e2 : fls (L ++ [f]) = fls L ++ fcells f := by rw [fls_app]; unfold fls; simp
    unfold Files
    rw [e1, e2]
    exact hown
  refine ⟨hs3, ⟨hs3.set 0 _, World.ownsRow.kept hf (grownBy_set w3 ⟨ob, 0, none⟩ _) (.inr (files_ne hf hs3 (by decide)))⟩, ?_⟩
  have hz := hgr.size
  simp at hz
  exact (((Below.refl ob w).alloc (by omega) _).grown hgr (by simp; omega) (fun j hj => by
    have := own_block h.row j hj
    omega)).grown (grownBy_set w3 ⟨ob, 0, none⟩ _) (by omega) (fun j hj => by cases hj; exact Nat.le_refl _)
theorem news_of {w : World} (f : Fl) (b : Nat) (hb : w.heap.size = b) : ∀ j u, (fcells f)[j]? = some u → (w.alloc (.cells #[.string (bs f.name), .string (bs f.s), .int .i64 (f.lasts : Int), .bool f.stays] 71)).cell? ((⟨b, 0, none⟩ : Addr).add j) = some u := fun j u hu => by
  subst hb
  rw [Addr.add_mid, Nat.zero_add]
  exact (Blk.new w (fcells f) 71).c j hu
theorem del_take {L : List Fl} {i : Nat} (hi : i < L.length) (n : List UInt8) : del n (L.take (i + 1)) = del n (L.take i) ++ if L[i].name = n then [] else [L[i]] := by
  rw [List.take_succ_eq_append_getElem hi]
  unfold del delK
  rw [List.filter_append]
  by_cases h : L[i].name = n
  · simp [h]
  · simp [h]
theorem del_len (n : List UInt8) (L : List Fl) : (del n L).length ≤ L.length := List.length_filter_le _ _
set_option maxRecDepth 100000 in
theorem without_any {w : World} {base : Nat} {v : Value} {L : List Fl} (h : Files w base v L) (hl : L.length ≤ 1000000) (fuse : Int) (down : Bool) (n : List UInt8) :
    Calls Try.prog 43 #[.agg #[v, .int .i64 fuse, .bool down], .string (bs n)] w fun e w' => ∃ v', e = .returned (.agg #[v', .int .i64 fuse, .bool down]) ∧ Files w' w.heap.size v' (del n L) ∧ Below w.heap.size w w' := by
  obtain ⟨q, cap, rfl⟩ := h.len
  have HV := Lib.hid h
  clear h
  obtain ⟨N, hN⟩ : ∃ N, L.length = N := ⟨_, rfl⟩
  rw [hN] at HV hl
  rw [hN]
  have HN := Lib.hid hN
  clear hN
  obtain ⟨i0, hi0, hz0, hz1, hz2⟩ := info71_parts
  obtain ⟨b0, hb0⟩ : ∃ b, w.heap.size = b := ⟨_, rfl⟩
  have HB0 := Lib.hid hb0
  rw [hb0]
  go_enter Try.func43, Try.ntmps43
  go_wp2_with fail
  have hA0 : Blk (((w.alloc (.cells #[.slice q N cap, .int .i64 fuse, .bool down] 28)).alloc (.cells #[.slice none 0 0, .int .i64 0, .bool false] 28)).alloc (.cells #[.slice none 0 0, .int .i64 fuse, .bool down] 28)) b0 [.slice q N cap, .int .i64 fuse, .bool down] 28 := ((Blk.at hb0.symm [_, _, _] 28).alloc _).alloc _
  have hA1 : Blk (((w.alloc (.cells #[.slice q N cap, .int .i64 fuse, .bool down] 28)).alloc (.cells #[.slice none 0 0, .int .i64 0, .bool false] 28)).alloc (.cells #[.slice none 0 0, .int .i64 fuse, .bool down] 28)) (b0 + 1) [.slice none 0 0, .int .i64 0, .bool false] 28 := (Blk.at (by simp; omega) [_, _, _] 28).alloc _
  have hA2 : Out (((w.alloc (.cells #[.slice q N cap, .int .i64 fuse, .bool down] 28)).alloc (.cells #[.slice none 0 0, .int .i64 0, .bool false] 28)).alloc (.cells #[.slice none 0 0, .int .i64 fuse, .bool down] 28)) (b0 + 1 + 1) none 0 0 fuse down [] := ⟨Blk.at (by simp; omega) [_, _, _] 28, Files.nil _ _⟩
  have hAV := ((HV.out.alloc (.cells #[.slice q N cap, .int .i64 fuse, .bool down] 28)).alloc (.cells #[.slice none 0 0, .int .i64 0, .bool false] 28)).alloc (.cells #[.slice none 0 0, .int .i64 fuse, .bool down] 28)
  have hBB : Below b0 w (((w.alloc (.cells #[.slice q N cap, .int .i64 fuse, .bool down] 28)).alloc (.cells #[.slice none 0 0, .int .i64 0, .bool false] 28)).alloc (.cells #[.slice none 0 0, .int .i64 fuse, .bool down] 28)) := (((Below.refl _ w).alloc (by omega) _).alloc (by simp; omega) _).alloc (by simp; omega) _
  have hlow : ∀ (g : Nat), Value.ownBlock (.slice q N cap) = some g → g < b0 := fun g hg => by
    rcases HV.out.2 with ⟨e, _⟩ | ⟨g', cap', cur, e, _, hh, _⟩
    · rw [e] at hg; cases hg
    · rw [e] at hg; cases hg; have := lt_of_block hh; show g' < b0; omega
  revert hA0 hA1 hA2 hAV hBB
  generalize (((w.alloc (.cells #[.slice q N cap, .int .i64 fuse, .bool down] 28)).alloc (.cells #[.slice none 0 0, .int .i64 0, .bool false] 28)).alloc (.cells #[.slice none 0 0, .int .i64 fuse, .bool down] 28)) = w0
  intro hA0 hA1 hA2 hAV hBB
  have HA0 := Lib.hid hA0
  have HA1 := Lib.hid hA1
  have HA2 := Lib.hid hA2
  have HAV := Lib.hid hAV
  have HBB := Lib.hid hBB
  have HLOW := Lib.hid hlow
  clear hA0 hA1 hA2 hAV hBB hlow
  go_loopw [6] (fun iv wr => ∃ (i : Nat) (qo : Option Addr) (m capo : Nat), i ≤ N ∧ iv = .int .i64 i ∧ Hid (Out wr (b0 + 1 + 1) qo m capo fuse down (del n (L.take i))) ∧ Hid (Below (b0 + 1 + 1) w0 wr)) (fun iv _ => N - (intOf iv).toNat)
  case atStart => exact ⟨0, none, 0, 0, by omega, rfl, HA2, Lib.hid (Below.refl _ _)⟩
  case round =>
    obtain ⟨i, qo, m, capo, hi, rfl, HO, HB⟩ := hrel
    have hA0 := HA0.out.below HB.out (by omega)
    have a0 := hA0.c 0 rfl
    by_cases hlt : i < N
    · have hil : i < L.length := by rw [HN.out]; exact hlt
      have hVr : Files wr base (.slice q N cap) L := HAV.out.keptF (G := fun j => b0 + 1 + 1 ≤ j) ⟨HB.out.os, HB.out.tape, HB.out.output, HB.out.size, fun k hk hG => HB.out.block k (by omega)⟩ (fun g hg => by have := HLOW.out g hg; omega)
      obtain ⟨ad, rfl, hab, -, c0, c1, c2, c3⟩ := hVr.at i hil
      obtain ⟨f, hf⟩ : ∃ f, L[i] = f := ⟨_, rfl⟩
      rw [hf] at c0 c1 c2 c3
      have HT : Hid (del n (L.take (i + 1)) = del n (L.take i) ++ if f.name = n then [] else [f]) := Lib.hid (by rw [del_take hil, hf])
      have HLE : Hid ((del n (L.take i)).length ≤ 2000000) := Lib.hid (by
        have := del_len n (L.take i)
        rw [List.length_take] at this
        omega)
      clear hf hil hVr hA0
      by_cases hn : f.name = n
      · have hq := text_yes hn
        have hq2 : ((bs f.name).toList != (bs n).toList) = false := by rw [bne, hq]; rfl
        have HX : Hid (del n (L.take (i + 1)) = del n (L.take i)) := Lib.hid (by rw [HT.out, if_pos hn]; simp)
        clear hn
        go_wp2_with fail
        refine ⟨⟨i + 1, qo, m, capo, by omega, by simp, ?_, HB⟩, ?_⟩
        · rw [HX.out]; exact HO
        · simp only [intOf]
          omega
      · have hq := text_no hn
        have hq2 : ((bs f.name).toList != (bs n).toList) = true := by rw [bne, hq]; rfl
        have HX : Hid (del n (L.take (i + 1)) = del n (L.take i) ++ [f]) := Lib.hid (by rw [HT.out, if_neg hn])
        have hD : Out wr.drew (b0 + 1 + 1) qo m capo fuse down (del n (L.take i)) := ⟨HO.out.self.drew, HO.out.row⟩
        have hml : m ≤ 2000000 := by have := HO.out.len; have := HLE.out; omega
        have o0 := HO.out.self.c 0 rfl
        have o2 : (wr.alloc (.cells #[.string (bs f.name), .string (bs f.s), .int .i64 (f.lasts : Int), .bool f.stays] 71)).drew.cell? ⟨b0 + 1 + 1, 0, none⟩ = some (.slice qo m capo) := (hD.self.alloc (.cells #[.string (bs f.name), .string (bs f.s), .int .i64 (f.lasts : Int), .bool f.stays] 71)).c 0 rfl
        have HD := Lib.hid hD
        have HS : Hid (b0 + 1 + 1 < wr.heap.size) := Lib.hid HO.out.self.lt
        clear hn hD
        go_wp2_with fail
        go_region_law (refine step_append_lies _ rfl (.tmp 28) (.tmp 34) 26 rfl (b0 + 1 + 1 + 1) 71 i0 _ 4 48 Try.underlying26 hi0 hz0 hz1 hz2 rfl (by decide) (.slice qo m capo) m (fls (del n (L.take i))) rfl (by have h1 := (HD.out.row.alloc (.cells #[.string (bs f.name), .string (bs f.s), .int .i64 (f.lasts : Int), .bool f.stays] 71)); unfold Files at h1; rw [← HD.out.len] at h1; exact h1) ⟨wr.heap.size, 0, none⟩ 1 1 (fcells f) rfl rfl (news_of (w := wr.drew) f wr.heap.size rfl) (fcells_one f) (by decide) (by unfold maxLen; omega) (by omega) (by have := HS.out; simp; omega) _ rfl ?_; intro g cap2 w3 hown hgr hat hlt3; obtain ⟨p1, p2, p3⟩ := HD.out.put f hown hgr; have o3 := p1.c 0 rfl; have f3 := p1.f 0; have HO3 := Lib.hid p2; have HB3 : Hid (Below (b0 + 1 + 1) w0 _) := Lib.hid (HB.out.trans (Below.trans (b := wr.drew) ⟨rfl, rfl, rfl, Nat.le_refl _, fun _ _ => rfl⟩ p3)); clear p1 p2 p3 hown hgr hat)
        all_goals (go_wp2_with fail)
        all_goals
          refine ⟨⟨i + 1, some ⟨g, 0, none⟩, m + 1, cap2, by omega, by simp, ?_, HB3⟩, ?_⟩
          · rw [HX.out]; exact HO3
          · simp only [intOf]
            omega
    · obtain rfl : i = N := by omega
      have HX : Hid (del n (L.take i) = del n L) := Lib.hid (by rw [List.take_of_length_le (by rw [HN.out]; exact Nat.le_refl _)])
      have hb2 := HO.out.self
      have hb1 := HA1.out.below HB.out (by omega)
      have o0 := hb2.c 0 rfl
      have o1 := hb2.c 1 rfl
      have o2 := hb2.c 2 rfl
      have e0 := hb1.c 0 rfl
      have e1 := hb1.c 1 rfl
      have e2 := hb1.c 2 rfl
      have f0 := hb1.f 0
      have f1 := hb1.f 1
      have f2 := hb1.f 2
      have HH1 := Lib.hid hb1
      clear hb2 hb1
      go_wp2_with fail
      have hfin : Blk (((wr.setCell ⟨b0 + 1, 0, none⟩ (.slice qo m capo)).setCell ⟨b0 + 1, 1, none⟩ (.int .i64 fuse)).setCell ⟨b0 + 1, 2, none⟩ (.bool down)) (b0 + 1) [.slice qo m capo, .int .i64 fuse, .bool down] 28 := ((HH1.out.set 0 _).set 1 _).set 2 _
      refine bodyPost_ret (v := .agg #[.slice qo m capo, .int .i64 fuse, .bool down]) (ret28 rfl rfl hfin) rfl ⟨_, rfl, ?_, ?_⟩
      · have hr := HO.out.row
        rw [HX.out] at hr
        have g1 := World.ownsRow.kept hr (grownBy_set wr ⟨b0 + 1, 0, none⟩ (.slice qo m capo)) (.inr (files_ne hr HH1.out (by decide)))
        have g2 := World.ownsRow.kept g1 (grownBy_set _ ⟨b0 + 1, 1, none⟩ (.int .i64 fuse)) (.inr (files_ne hr HH1.out (by decide)))
        have g3 := World.ownsRow.kept g2 (grownBy_set _ ⟨b0 + 1, 2, none⟩ (.bool down)) (.inr (files_ne hr HH1.out (by decide)))
        exact Files.mono (base' := b0) g3 (by omega)
      · have h1 : Below b0 w wr := HBB.out.trans (HB.out.mono (by omega))
        have hs := h1.size
        exact ((h1.grown (grownBy_set wr ⟨b0 + 1, 0, none⟩ (.slice qo m capo)) (by omega) (fun j hj => by cases hj; show b0 ≤ b0 + 1; omega)).grown (grownBy_set _ ⟨b0 + 1, 1, none⟩ (.int .i64 fuse)) (by simp [World.setCell]; omega) (fun j hj => by cases hj; show b0 ≤ b0 + 1; omega)).grown (grownBy_set _ ⟨b0 + 1, 2, none⟩ (.bool down)) (by simp [World.setCell]; omega) (fun j hj => by cases hj; show b0 ≤ b0 + 1; omega)
end Go.Proofs.Ytfkefppabjbbdaa
