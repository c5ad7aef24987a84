/- The program's Remove. -/
import Derived.Test.YtfkefppabjbbdaaK
namespace Go.Proofs.Ytfkefppabjbbdaa
open Go.RowKit Go.Maps
set_option linter.unusedVariables false
theorem ok_del {k : Dk} (hok : Ok k) {n : List UInt8} {f : Fl} (hg : get n k.L = some f) : Ok (withL k (del n k.L)) ∧ tot k.L = f.s.length + tot (del n k.L) := by
  obtain ⟨hf, hk⟩ := getK_some hg
  have e := tot_del hok.sorted hf
  rw [hk] at e
  refine ⟨⟨sorted_delK hok.sorted, fun g hg => hok.names g (mem_delK.1 hg).1, fun g hg => hok.lasts g (mem_delK.1 hg).1, ?_, ?_, hok.fuse, hok.top⟩, e⟩
  · show tot (del n k.L) ≤ _
    have := hok.tot
    omega
  · show (del n k.L).length ≤ _
    have := List.length_filter_le (fun y => decide (Fl.name y ≠ n)) k.L
    have h2 := hok.len
    show (k.L.filter _).length ≤ _
    omega
theorem delE {E : List Ent} {L : List Fl} (hE : E.map Ent.f = L) (n : List UInt8) : (delK Ent.k n E).map Ent.f = del n L := by
  rw [delK_map (k := Ent.k) (k' := Fl.name) (g := Ent.f) (fun _ => rfl), hE]
set_option maxRecDepth 100000 in
theorem remove_any {w : World} {F : Nat → Prop} {d : Nat} {k : Dk} (h : DiskAt w F d k) (n : List UInt8) (hn : n.length ≤ 1000000) :
    Calls Try.prog 35 #[.pointer (some ⟨d, 0, none⟩), .string (bs n)] w fun e w' => e = .returned (.int .i64 (removeE k n : Nat)) ∧ DiskAt w' F d (removeD k n) ∧ Kept F w w' := by
  unfold removeE syncE removeD
  by_cases hf : find k n = 0
  · rw [if_neg (by simpa using hf), if_neg (by simpa using hf)]
    obtain ⟨B, E, hm, hE, hok⟩ := h
    obtain ⟨ha, f, hgf⟩ := find_zero hf
    have hgE := hgf
    rw [get_E hE] at hgE
    cases hg : getK Ent.k n E with
    | none => rw [hg] at hgE; cases hgE
    | some x =>
      rw [hg] at hgE
      obtain ⟨xf, xb, xv⟩ := x
      cases hgE
      have hs1 := Lib.hid (find_yes hm n hn ha hg)
      have hs2 := Lib.hid (step_any hm hok.fuse hok.top)
      have hxm := (getK_some hg).1
      obtain ⟨hok', htot⟩ := ok_del hok hgf
      have htt := hok.tot
      obtain ⟨q, cap, hxv⟩ := (hm.each _ hxm).row.len
      simp only at hxv
      obtain ⟨N, hN⟩ : ∃ N, xf.s.length = N := ⟨_, rfl⟩
      rw [hN] at hxv htot
      subst hxv
      have HM := Lib.hid hm
      have HE := Lib.hid hE
      have HX := Lib.hid hxm
      have HOK := Lib.hid hok
      have HOK' := Lib.hid hok'
      have HT := Lib.hid htot
      have hkey := key9 (n := n) (by unfold maxLen; omega)
      have hne : d ≠ xb := hm.self.ne (hm.each _ hxm).cells (by decide)
      obtain ⟨T, hTT⟩ : ∃ T, tot k.L = T := ⟨_, rfl⟩
      have HTT := Lib.hid hTT
      rw [hTT] at htt htot hs2
      have hNT : N ≤ T := by omega
      clear hm hE hxm hok hok' hN ha hf hg hTT htot
      by_cases h0 : k.fuse = 0
      · have hb : burnE k.fuse = 8 := by unfold burnE; rw [if_pos h0]
        rw [if_pos h0, hb]
        rw [hb] at hs2
        have HB : Hid (∀ w', DiskM w' F d B E (T : Nat) (burnF k.fuse) (burnB k.fuse k.down) → DiskAt w' F d (burn k)) := Lib.hid (fun w' hm' => burn_at hm' HE.out (by rw [HTT.out]) HOK.out)
        clear hb h0
        go_enter Try.func35, Try.ntmps35
        go_wp2_with fail
        refine (hs1.out).mono ?_
        rintro e w1 ⟨rfl, rfl⟩
        go_wp2_with fail
        refine (hs2.out).mono ?_
        rintro e w2 ⟨rfl, hm2, hg2⟩
        have HD := Lib.hid (HB.out _ hm2)
        have HK := Lib.hid ((Kept.refl F w1).grown hg2 (fun j hj => by cases hj; exact .inr HM.out.fd))
        clear hm2 hg2
        go_wp2_with fail
        go_ret
        exact ⟨rfl, HD.out, HK.out⟩
      · have hb : burnE k.fuse = 0 := by unfold burnE; rw [if_neg h0]
        rw [if_neg h0, hb]
        rw [hb] at hs2
        clear hb h0
        go_enter Try.func35, Try.ntmps35
        go_wp2_with fail
        refine (hs1.out).mono ?_
        rintro e w1 ⟨rfl, rfl⟩
        go_wp2_with fail
        refine (hs2.out).mono ?_
        rintro e w2 ⟨rfl, hm2, hg2⟩
        have HM2 := Lib.hid hm2
        have HK := Lib.hid ((Kept.refl F w1).grown hg2 (fun j hj => by cases hj; exact .inr HM.out.fd))
        have c0 := hm2.self.c 0 rfl
        have c1 := hm2.self.c 1 rfl
        have f1 := hm2.self.f 1
        have e0 := (hm2.each _ HX.out).cells.c 0 rfl
        simp only at e0
        clear hm2 hg2
        go_wp2_with fail
        go_region
        have hmd : DiskM (w2.setCell ⟨d, 1, none⟩ (.int .i64 ((T : Int) - (N : Int)))).drew F d B E ((T : Int) - (N : Int)) (burnF k.fuse) (burnB k.fuse k.down) := (HM2.out.setUsed _).quiet (grown_drew (grown_refl _ _))
        have hkd : Kept F w1 (w2.setCell ⟨d, 1, none⟩ (.int .i64 ((T : Int) - (N : Int)))).drew := (HK.out.set _ _ (.inr HM.out.fd)).drew
        generalize (w2.setCell ⟨d, 1, none⟩ (.int .i64 ((T : Int) - (N : Int)))).drew = w3 at hmd hkd ⊢
        have HMD := Lib.hid hmd
        have HKD := Lib.hid hkd
        have c0' := hmd.self.c 0 rfl
        have hmap := hmd.map
        clear hmd hkd c0 c1 f1 e0 HM2 HK
        go_wp2_with (at_delete; refine wpList_delete_own _ rfl _ _ 72 9 rfl 63 law9 Try.underlying72 relem B E.length (mapOf E) rfl hmap _ (.string n) rfl hkey ?_)
        intro w4 hown4 hturn4
        have HD : Hid (DiskAt w4 F d (burn (withL k (del n k.L)))) := Lib.hid (burn_at (k := withL k (del n k.L)) (HMD.out.drop hturn4.grown hown4) (delE HE.out n) (by
          have h1 := HT.out
          have h2 := HTT.out
          show _ = ((tot (del n k.L) : Nat) : Int)
          omega) HOK'.out)
        have HKK := Lib.hid (HKD.out.grown hturn4.grown (fun j hj => by cases hj; exact .inr HM.out.fB))
        clear hown4 hturn4 hmap c0'
        go_wp2_with fail
        go_ret
        exact ⟨rfl, HD.out, HKK.out⟩
  · rw [if_pos hf, if_pos hf]
    have hs := Lib.hid (find_no h n hn hf)
    have HD := Lib.hid h
    obtain ⟨a, hA⟩ : ∃ a, find k n = a := ⟨_, rfl⟩
    rw [hA] at hs hf ⊢
    have g0 : ((a : Int) == 0) = false := by simp; omega
    clear h hA hf
    go_enter Try.func35, Try.ntmps35
    go_wp2_with fail
    refine (hs.out).mono ?_
    rintro e w1 ⟨rfl, rfl⟩
    go_wp2_with fail
    go_ret
    exact ⟨rfl, HD.out, Kept.refl _ _⟩
end Go.Proofs.Ytfkefppabjbbdaa
