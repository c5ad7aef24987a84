/- The program's Sync, Read, Remove. -/
import Derived.Test.YtfkefppabjbbdaaJ
namespace Go.Proofs.Ytfkefppabjbbdaa
open Go.RowKit Go.Maps
set_option linter.unusedVariables false
theorem find_zero {k : Dk} {n : List UInt8} (h : find k n = 0) : askN k.down n = 0 ∧ ∃ f, get n k.L = some f := by
  unfold find at h
  by_cases ha : ask k n = 0
  · rw [if_neg (by simpa using ha)] at h
    cases hg : get n k.L with
    | none => rw [hg] at h; simp at h
    | some f => exact ⟨ha, f, rfl⟩
  · rw [if_pos ha] at h; exact absurd h ha
theorem find_no {w : World} {F : Nat → Prop} {d : Nat} {k : Dk} (h : DiskAt w F d k) (n : List UInt8) (hn : n.length ≤ 1000000) (hf : find k n ≠ 0) :
    Calls Try.prog 32 #[.pointer (some ⟨d, 0, none⟩), .string (bs n)] w fun e w' => e = .returned (.tuple #[.pointer none, .int .i64 (find k n : Nat)]) ∧ w' = w := by
  obtain ⟨B, E, hm, hE, hok⟩ := h
  unfold find at hf ⊢
  by_cases ha : ask k n = 0
  · rw [if_neg (by simpa using ha)] at hf ⊢
    have hg : getK Ent.k n E = none := by
      rw [get_E hE] at hf
      cases hg : getK Ent.k n E with
      | none => rfl
      | some e => rw [hg] at hf; simp at hf
    refine (find_any hm n ha hn).mono ?_
    rw [get_E hE, hg]
    exact fun e w' h => h
  · rw [if_pos ha]
    exact find_ask hm n ha
theorem find_yes {w : World} {F : Nat → Prop} {d B : Nat} {E : List Ent} {k : Dk} {u fuse : Int} (hm : DiskM w F d B E u fuse k.down) (n : List UInt8) (hn : n.length ≤ 1000000) (ha : askN k.down n = 0) {x : Ent} (hg : getK Ent.k n E = some x) :
    Calls Try.prog 32 #[.pointer (some ⟨d, 0, none⟩), .string (bs n)] w fun e w' => e = .returned (.tuple #[.pointer (some ⟨x.blk, 0, none⟩), .int .i64 0]) ∧ w' = w := by
  refine (find_any hm n ha hn).mono ?_
  rw [hg]
  exact fun e w' h => h
theorem burn_at {w : World} {F : Nat → Prop} {d B : Nat} {E : List Ent} {u : Int} {k : Dk} (hm : DiskM w F d B E u (burnF k.fuse) (burnB k.fuse k.down)) (hE : E.map Ent.f = k.L) (hu : u = (tot k.L : Nat)) (hok : Ok k) : DiskAt w F d (burn k) := by
  obtain ⟨h1, h2, h3⟩ := burn_E k
  refine ⟨B, E, ?_, by rw [h3]; exact hE, ok_burn hok⟩
  rw [h1, h2, h3, ← hu]
  exact hm
/-- A file of which all bytes last. -/
theorem last_mem {w w' : World} {F : Nat → Prop} {d B : Nat} {E : List Ent} {u fuse : Int} {down : Bool} (h : DiskM w F d B E u fuse down) {xf : Fl} {xb : Nat} {xv : Value} (hxm : (⟨xf, xb, xv⟩ : Ent) ∈ E)
    (hb : Blk w' xb [xv, .int .i64 (xf.s.length : Nat), .bool true] 68) (hg : w.grownBy w' (some xb)) : DiskM w' F d B (insK Ent.k ⟨lastF xf, xb, xv⟩ E) u fuse down ∧ Kept F w w' := by
  have hx := h.each _ hxm
  have hne : ∀ g, xv.ownBlock = some g → g ≠ xb := fun g hg' e => own_ne hx.row hx.cells (by decide) (by rw [← e]; exact hg')
  refine ⟨h.renew (x := ⟨lastF xf, xb, xv⟩) hxm rfl rfl ((Kept.refl _ w).grown hg (fun j hj => by cases hj; exact .inr (.inl rfl))) ⟨hb, World.ownsRow.kept hx.row hg (by
      cases hv : xv.ownBlock with
      | none => exact .inl rfl
      | some g => exact .inr (fun e => hne g hv (Option.some.inj e))), hx.fb, hx.fr⟩ (fun g hg' => .inl hg'), (Kept.refl F w).grown hg (fun j hj => by cases hj; exact .inr hx.fb)⟩
theorem ok_last {k : Dk} (hok : Ok k) {n : List UInt8} {f : Fl} (hg : get n k.L = some f) (h1 : 1 ≤ n.length) (h2 : n.length ≤ 64) : Ok (withL k (ins (lastF f) k.L)) ∧ tot (ins (lastF f) k.L) = tot k.L := by
  obtain ⟨hf, hk⟩ := getK_some hg
  have e := tot_ins_old (f := lastF f) hok.sorted hf rfl
  have e' : tot (ins (lastF f) k.L) = tot k.L := by
    have : (lastF f).s.length = f.s.length := rfl
    omega
  refine ⟨ok_ins hok (by show 1 ≤ f.name.length; rw [hk]; exact h1) (by show f.name.length ≤ 64; rw [hk]; exact h2) (Nat.le_refl _) (by rw [e']; exact hok.tot) (fun hn => ?_), e'⟩
  have : get f.name k.L = some f := getK_mem hok.sorted hf
  rw [show (lastF f).name = f.name from rfl, this] at hn
  cases hn
theorem insE {E : List Ent} {L : List Fl} (hE : E.map Ent.f = L) (x : Ent) : (insK Ent.k x E).map Ent.f = ins x.f L := by
  rw [insK_map (k := Ent.k) (k' := Fl.name) (g := Ent.f) (fun _ => rfl), hE]
set_option maxRecDepth 100000 in
theorem sync_any {w : World} {F : Nat → Prop} {d : Nat} {k : Dk} (h : DiskAt w F d k) (n : List UInt8) (hn : n.length ≤ 1000000) :
    Calls Try.prog 26 #[.pointer (some ⟨d, 0, none⟩), .string (bs n)] w fun e w' => e = .returned (.int .i64 (syncE k n : Nat)) ∧ DiskAt w' F d (syncD k n) ∧ Kept F w w' := by
  unfold syncE syncD
  by_cases hf : find k n = 0
  · rw [if_neg (by simpa using hf), if_neg (by simpa using hf)]
    obtain ⟨B, E, hm, hE, hok⟩ := h
    obtain ⟨ha, f, hgf⟩ := find_zero hf
    obtain ⟨_, hn1, hn2⟩ := ask_good ha
    have hgE := hgf
    rw [get_E hE] at hgE
    cases hg : getK Ent.k n E with
    | none => rw [hg] at hgE; cases hgE
    | some x =>
      rw [hg] at hgE
      obtain ⟨xf, xb, xv⟩ := x
      cases hgE
      have hs1 := Lib.hid (find_yes hm n hn ha hg)
      have hs2 := Lib.hid (step_any hm hok.fuse hok.top)
      have hxm := (getK_some hg).1
      obtain ⟨hok', htot⟩ := ok_last hok hgf hn1 hn2
      obtain ⟨q, cap, hxv⟩ := (hm.each _ hxm).row.len
      simp only at hxv
      obtain ⟨N, hN⟩ : ∃ N, xf.s.length = N := ⟨_, rfl⟩
      rw [hN] at hxv
      subst hxv
      have HM := Lib.hid hm
      have HE := Lib.hid hE
      have HX := Lib.hid hxm
      have HOK := Lib.hid hok
      have HOK' := Lib.hid hok'
      have HT := Lib.hid htot
      have HN := Lib.hid hN
      rw [old_some hgf]
      clear hm hE hxm hok hok' htot hN ha hf hg
      by_cases h0 : k.fuse = 0
      · have hb : burnE k.fuse = 8 := by unfold burnE; rw [if_pos h0]
        rw [if_pos h0, hb]
        rw [hb] at hs2
        have HB : Hid (∀ w', DiskM w' F d B E (tot k.L : Nat) (burnF k.fuse) (burnB k.fuse k.down) → DiskAt w' F d (burn k)) := Lib.hid (fun w' hm' => burn_at hm' HE.out rfl HOK.out)
        clear hb h0
        go_enter Try.func26, Try.ntmps26
        go_wp2_with fail
        refine (hs1.out).mono ?_
        rintro e w1 ⟨rfl, rfl⟩
        go_wp2_with fail
        refine (hs2.out).mono ?_
        rintro e w2 ⟨rfl, hm2, hg2⟩
        have HD := Lib.hid (HB.out _ hm2)
        have HK := Lib.hid ((Kept.refl F w1).grown hg2 (fun j hj => by cases hj; exact .inr HM.out.fd))
        clear hm2 hg2
        go_wp2_with fail
        go_ret
        exact ⟨rfl, HD.out, HK.out⟩
      · have hb : burnE k.fuse = 0 := by unfold burnE; rw [if_neg h0]
        rw [if_neg h0, hb]
        rw [hb] at hs2
        clear hb h0
        go_enter Try.func26, Try.ntmps26
        go_wp2_with fail
        refine (hs1.out).mono ?_
        rintro e w1 ⟨rfl, rfl⟩
        go_wp2_with fail
        refine (hs2.out).mono ?_
        rintro e w2 ⟨rfl, hm2, hg2⟩
        have HM2 := Lib.hid hm2
        have HK := Lib.hid ((Kept.refl F w1).grown hg2 (fun j hj => by cases hj; exact .inr HM.out.fd))
        have HL := Lib.hid (last_any (hm2.each _ HX.out).cells)
        clear hm2 hg2
        go_wp2_with fail
        refine (HL.out).mono ?_
        rintro e w3 ⟨rfl, hb3, hg3⟩
        have hh := last_mem HM2.out HX.out (by rw [HN.out]; exact hb3) hg3
        have HD : Hid (DiskAt w3 F d (burn (withL k (ins (lastF xf) k.L)))) := Lib.hid (burn_at (k := withL k (ins (lastF xf) k.L)) hh.1 (insE HE.out _) (by rw [show tot (withL k (ins (lastF xf) k.L)).L = tot k.L from HT.out]) HOK'.out)
        have HKK := Lib.hid (HK.out.trans hh.2)
        clear hh hb3 hg3
        go_wp2_with fail
        go_ret
        exact ⟨rfl, HD.out, HKK.out⟩
  · rw [if_pos hf, if_pos hf]
    have hs := Lib.hid (find_no h n hn hf)
    have HD := Lib.hid h
    obtain ⟨a, hA⟩ : ∃ a, find k n = a := ⟨_, rfl⟩
    rw [hA] at hs hf ⊢
    have g0 : ((a : Int) == 0) = false := by simp; omega
    clear h hA hf
    go_enter Try.func26, Try.ntmps26
    go_wp2_with fail
    refine (hs.out).mono ?_
    rintro e w1 ⟨rfl, rfl⟩
    go_wp2_with fail
    go_ret
    exact ⟨rfl, HD.out, Kept.refl _ _⟩
set_option maxRecDepth 100000 in
theorem read_any {w : World} {F : Nat → Prop} {d : Nat} {k : Dk} (h : DiskAt w F d k) (n : List UInt8) (hn : n.length ≤ 1000000) :
    Calls Try.prog 14 #[.pointer (some ⟨d, 0, none⟩), .string (bs n)] w fun e w' => ∃ u, e = .returned (.tuple #[u, .int .i64 (find k n : Nat)]) ∧ OwnB w' w.heap.size u (readS k n) ∧ DiskAt w' F d k ∧ Below w.heap.size w w' := by
  unfold readS
  by_cases hf : find k n = 0
  · rw [if_neg (by simpa using hf), hf]
    obtain ⟨B, E, hm, hE, hok⟩ := h
    obtain ⟨ha, f, hgf⟩ := find_zero hf
    have hgE := hgf
    rw [get_E hE] at hgE
    cases hg : getK Ent.k n E with
    | none => rw [hg] at hgE; cases hgE
    | some x =>
      rw [hg] at hgE
      obtain ⟨xf, xb, xv⟩ := x
      cases hgE
      have hs1 := Lib.hid (find_yes hm n hn ha hg)
      have hxm := (getK_some hg).1
      have htm : xf.s.length ≤ tot k.L := tot_mem (getK_some hgf).1
      have htt := hok.tot
      have hc := Lib.hid (copied_any (l := xf.s) (by omega) (Seen.own (hm.each _ hxm).row))
      have c0 := (hm.each _ hxm).cells.c 0 rfl
      have HM := Lib.hid hm
      have HE := Lib.hid hE
      have HOK := Lib.hid hok
      rw [old_some hgf]
      simp only at hc c0
      obtain ⟨q, cap, hxv⟩ := (hm.each _ hxm).row.len
      simp only at hxv
      subst hxv
      obtain ⟨S, hS⟩ : ∃ S, xf.s = S := ⟨_, rfl⟩
      rw [hS] at hc c0 ⊢
      clear hm hE hxm hok ha hf hg htm htt hgf hS
      go_enter Try.func14, Try.ntmps14
      go_wp2_with fail
      refine (hs1.out).mono ?_
      rintro e w1 ⟨rfl, rfl⟩
      go_wp2_with fail
      refine (hc.out).mono ?_
      rintro e w2 ⟨u, rfl, ho, ⟨g, rfl⟩, hb⟩
      have HO := Lib.hid ho
      have HB := Lib.hid hb
      clear ho hb
      go_wp2_with fail
      go_ret2
      exact ⟨_, rfl, HO.out, ⟨B, E, HM.out.below HB.out, HE.out, HOK.out⟩, HB.out⟩
  · rw [if_pos hf]
    have hs := Lib.hid (find_no h n hn hf)
    have HD := Lib.hid h
    obtain ⟨a, hA⟩ : ∃ a, find k n = a := ⟨_, rfl⟩
    rw [hA] at hs hf ⊢
    have g0 : ((a : Int) == 0) = false := by simp; omega
    clear h hA hf
    go_enter Try.func14, Try.ntmps14
    go_wp2_with fail
    refine (hs.out).mono ?_
    rintro e w1 ⟨rfl, rfl⟩
    go_wp2_with fail
    go_ret2
    exact ⟨_, rfl, OwnB.nil _ _, HD.out, Below.refl _ _⟩
end Go.Proofs.Ytfkefppabjbbdaa
