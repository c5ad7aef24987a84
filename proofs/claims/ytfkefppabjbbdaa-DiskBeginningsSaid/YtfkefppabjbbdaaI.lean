/- The program's Append, walked. -/
import Derived.Test.YtfkefppabjbbdaaH
namespace Go.Proofs.Ytfkefppabjbbdaa
open Go.RowKit Go.Maps
set_option linter.unusedVariables false
set_option maxRecDepth 100000 in
theorem append_no {w : World} {F : Nat → Prop} {d : Nat} {k : Dk} (h : DiskAt w F d k) (n : List UInt8) (hn : n.length ≤ 1000000) (xv : Value) (b : List UInt8) (Bx : Nat) (hx : Seen w Bx xv b) (hb : b.length ≤ 10000000) (hm : mayHold k n b.length ≠ 0) :
    Calls Try.prog 25 #[.pointer (some ⟨d, 0, none⟩), .string (bs n), xv] w fun e w' => e = .returned (.int .i64 (mayHold k n b.length : Nat)) ∧ w' = w := by
  have hs := Lib.hid (hold_dk h n hn b.length)
  obtain ⟨q, cap, rfl, _⟩ := hx.len
  obtain ⟨a, hA⟩ : ∃ a, mayHold k n b.length = a := ⟨_, rfl⟩
  obtain ⟨m, hM⟩ : ∃ m, b.length = m := ⟨_, rfl⟩
  rw [hM] at hA
  rw [hM, hA] at hs hm ⊢
  have h0 : ((a : Int) == 0) = false := by simp; omega
  clear h hx hA hM hm
  go_enter Try.func25, Try.ntmps25
  go_wp2_with fail
  refine (hs.out).mono ?_
  rintro e w1 ⟨rfl, rfl⟩
  go_wp2_with fail
  go_ret
  exact ⟨rfl, rfl⟩
set_option maxRecDepth 100000 in
theorem append_old {w : World} {F : Nat → Prop} (hF : ∀ i, w.heap.size ≤ i → F i) {d B : Nat} {E : List Ent} {k : Dk} (h : DiskM w F d B E (tot k.L : Nat) k.fuse k.down) (hE : E.map Ent.f = k.L) (hok : Ok k) (n : List UInt8) (hn : n.length ≤ 1000000) (xv : Value) (b : List UInt8) (Bx : Nat) (hx : Seen w Bx xv b) (hb : b.length ≤ 10000000) (hm : mayHold k n b.length = 0)
    (x : Ent) (hg : getK Ent.k n E = some x) :
    Calls Try.prog 25 #[.pointer (some ⟨d, 0, none⟩), .string (bs n), xv] w fun e w' => e = .returned (.int .i64 (appendE k n b : Nat)) ∧ DiskAt w' F d (appendD k n b) ∧ Kept F w w' := by
  obtain ⟨hxm, hxk⟩ := getK_some hg
  have hgf : get n k.L = some x.f := by rw [get_E hE, hg]; rfl
  have hold := hold_dk ⟨B, E, h, hE, hok⟩ n hn b.length
  rw [hm] at hold
  have hs := Lib.hid hold
  have hEa : appendE k n b = burnE k.fuse := by unfold appendE; rw [if_neg (by rw [hm]; simp)]
  have hDa : appendD k n b = burn (withL k (ins (addF x.f b) k.L)) := by unfold appendD; rw [if_neg (by rw [hm]; simp), old_some hgf]
  rw [hEa, hDa]
  obtain ⟨hg1, hg2, hg3⟩ := hold_good hm
  obtain ⟨_, hn1, hn2⟩ := ask_good hg1
  have hxf := tot_mem (getK_some hgf).1
  have htot := hok.tot
  have hxe := h.each x hxm
  obtain ⟨E', hE'⟩ : ∃ E', E' = insK Ent.k ⟨(addF x.f b), x.blk, x.v⟩ E := ⟨_, rfl⟩
  have hname : x.f.name = n := hxk
  have htn : tot (ins (addF x.f b) k.L) = tot k.L + b.length := by
    have := tot_ins_old (f := (addF x.f b)) hok.sorted (getK_some hgf).1 rfl
    have e : (addF x.f b).s.length = x.f.s.length + b.length := List.length_append
    omega
  have hok' : Ok (withL k (ins (addF x.f b) k.L)) := ok_ins hok (by show 1 ≤ x.f.name.length; rw [hname]; exact hn1) (by show x.f.name.length ≤ 64; rw [hname]; exact hn2) (by
    have := hok.lasts x.f (getK_some hgf).1
    show x.f.lasts ≤ (x.f.s ++ b).length
    rw [List.length_append]; omega) (by rw [htn]; omega) (by show get x.f.name k.L = none → _; rw [hname, hgf]; intro h; cases h)
  have hlook := h.map.look (n := n) (by unfold maxLen; omega)
  rw [hg] at hlook
  simp only [Option.isSome_some] at hlook
  obtain ⟨q, cap, rfl, _⟩ := hx.len
  obtain ⟨q1, cap1, hv1⟩ := hxe.row.len
  obtain ⟨bk, hbk⟩ : ∃ bk, x.blk = bk := ⟨_, rfl⟩
  obtain ⟨xvv, hxvv⟩ : ∃ y, x.v = y := ⟨_, rfl⟩
  have hcell := hxe.cells
  have hrow := hxe.row
  rw [hbk] at hlook
  rw [hbk, hxvv] at hcell
  rw [hxvv] at hrow
  have hne : d ≠ bk := h.self.ne hcell (by decide)
  have c0 := h.self.c 0 rfl
  have c1 := h.self.c 1 rfl
  have e0 := hcell.c 0 rfl
  have ef0 := hcell.f 0
  have HX := Lib.hid hx
  have HROW := Lib.hid hrow
  have HLEN : Hid (x.f.s.length + b.length ≤ 2000000000) := Lib.hid (by omega)
  have HH := Lib.hid h
  have HC := Lib.hid hcell
  have HTN := Lib.hid htn
  have HOK := Lib.hid hok'
  have HT : Hid (tot k.L + b.length ≤ 4194304) := Lib.hid (by omega)
  clear hx hrow h hcell htn hok' hxe htot hxf hg1 hg3 hok hm hold hE' hv1 hEa hDa
  go_enter Try.func25, Try.ntmps25
  go_wp2_with fail
  refine (hs.out).mono ?_
  rintro e w1 ⟨rfl, rfl⟩
  go_wp2_with (at_builtin; refine wpList_append_loc rfl (.tmp 41) (.tmp 42) rfl xvv x.f.s rfl HROW.out Bx _ b rfl HX.out HLEN.out ?_)
  intro v' w2 ho hgr hloc
  obtain ⟨q2, cap2, hv2⟩ := ho.out.len
  have hc2 := HC.out.kept hgr.out (fun e => own_ne HROW.out HC.out (by decide) e.symm)
  have hs2 := HH.out.self.kept hgr.out (fun e => own_ne HROW.out HH.out.self (by decide) e.symm)
  have hk2 := ((Kept.refl (fun i => i = bk ∨ xvv.ownBlock = some i) w1).grown hgr.out (fun j hj => .inr (.inr hj))).set ⟨bk, 0, none⟩ v' (.inr (.inl rfl))
  have hx2 : EntM (w2.setCell ⟨bk, 0, none⟩ v') F ⟨addF x.f b, bk, v'⟩ := ⟨hc2.set 0 v', World.ownsRow.kept ho.out (grownBy_set w2 ⟨bk, 0, none⟩ v') (by
      cases hvo : v'.ownBlock with
      | none => exact .inl rfl
      | some g => exact .inr (fun e => own_ne ho.out hc2 (by decide) (by rw [hvo, e]))), hbk ▸ (HH.out.each x hxm).fb, fun g hg' => by
    rcases hloc.out g hg' with h1 | h1
    · exact (HH.out.each x hxm).fr g (by rw [hxvv]; exact h1)
    · exact hF g h1⟩
  have hd2 := HH.out.renew (x := ⟨addF x.f b, bk, v'⟩) hxm rfl hbk.symm (by rw [hbk, hxvv]; exact hk2) hx2 (by rw [hxvv]; exact hloc.out)
  have hk3 : Kept F w1 (w2.setCell ⟨bk, 0, none⟩ v') := hk2.mono (fun i hi => by
    rcases hi with rfl | hi
    · exact hbk ▸ (HH.out.each x hxm).fb
    · exact (HH.out.each x hxm).fr i (by rw [hxvv]; exact hi))
  have hfd := HH.out.fd
  have hf0 := hc2.f 0
  have hf1 := hs2.f 1
  have hcc0 := hc2.c 0 rfl
  have hcc1 := hs2.c 1 rfl
  have HD2 := Lib.hid hd2
  have HK3 := Lib.hid hk3
  obtain ⟨m2, hm2⟩ : ∃ m2, (x.f.s ++ b).length = m2 := ⟨_, rfl⟩
  rw [hm2] at hv2
  subst hv2
  have hneF : (d = bk) = False := by simp [hne]
  have hneF' : (bk = d) = False := by simp [Ne.symm hne]
  clear hd2 hk3 hx2 hk2 hs2 hc2 hgr hloc ho
  have hEE : Hid ((insK Ent.k ⟨addF x.f b, bk, .slice q2 m2 cap2⟩ E).map Ent.f = (withL k (ins (addF x.f b) k.L)).L) := Lib.hid (by
    rw [insK_map (k := Ent.k) (k' := Fl.name) (g := Ent.f) (fun _ => rfl), hE]; rfl)
  have hUU : Hid (((tot k.L : Nat) : Int) + (b.length : Int) = ((tot (withL k (ins (addF x.f b) k.L)).L : Nat) : Int)) := Lib.hid (by
    have := HTN.out
    show _ = ((tot (ins (addF x.f b) k.L) : Nat) : Int)
    omega)
  go_wp2_with fail
  refine (step_dk (k := withL k (ins (addF x.f b) k.L)) (HD2.out.setUsed _) hEE.out hUU.out HOK.out).mono ?_
  rintro e w3 ⟨rfl, hD, hg3⟩
  have HDD := Lib.hid hD
  have HKK := Lib.hid (HK3.out.grown ((grownBy_set _ ⟨d, 1, none⟩ _).trans hg3) (fun j hj => by cases hj; exact .inr hfd))
  clear hD hg3
  go_wp2_with fail
  go_ret
  exact ⟨rfl, HDD.out, HKK.out⟩
end Go.Proofs.Ytfkefppabjbbdaa
