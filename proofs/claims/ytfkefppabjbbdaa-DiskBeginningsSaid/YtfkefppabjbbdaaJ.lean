/- The program's Append where the file isn't there; Append, whatever there is. -/
import Derived.Test.YtfkefppabjbbdaaI
namespace Go.Proofs.Ytfkefppabjbbdaa
open Go.RowKit Go.Maps
set_option linter.unusedVariables false
theorem insK_insK {α : Type} {k : α → List UInt8} {x y : α} (h : k x = k y) : ∀ l : List α, insK k y (insK k x l) = insK k y l
  | [] => by
    show (if k y < k x then _ else if k y = k x then _ else _) = _
    rw [if_neg (by rw [h]; exact lt_irr _), if_pos h.symm]; rfl
  | z :: r => by
    by_cases h1 : k x < k z
    · have e : insK k x (z :: r) = x :: z :: r := by simp only [insK, if_pos h1]
      rw [e]
      show (if k y < k x then _ else if k y = k x then _ else _) = (if k y < k z then _ else _)
      rw [if_neg (by rw [h]; exact lt_irr _), if_pos h.symm, if_pos (h ▸ h1)]
    · by_cases h2 : k x = k z
      · have e : insK k x (z :: r) = x :: r := by simp only [insK, if_neg h1, if_pos h2]
        rw [e]
        show (if k y < k x then _ else if k y = k x then _ else _) = (if k y < k z then _ else if k y = k z then _ else _)
        rw [if_neg (by rw [h]; exact lt_irr _), if_pos h.symm, if_neg (h ▸ h1), if_pos (h ▸ h2)]
      · have e : insK k x (z :: r) = z :: insK k x r := by simp only [insK, if_neg h1, if_neg h2]
        rw [e]
        show (if k y < k z then _ else if k y = k z then _ else _) = (if k y < k z then _ else if k y = k z then _ else _)
        rw [if_neg (h ▸ h1), if_neg (h ▸ h2), if_neg (h ▸ h1), if_neg (h ▸ h2), insK_insK h r]
/-- A disk in memory, when a file's bytes have been appended to, and its first cell is written. -/
theorem append_mem {w w2 : World} {F : Nat → Prop} (hF : ∀ i, w.heap.size ≤ i → F i) {d B : Nat} {E : List Ent} {u fuse : Int} {down : Bool} (h : DiskM w F d B E u fuse down) {xf : Fl} {xb : Nat} {xv : Value} (hxm : (⟨xf, xb, xv⟩ : Ent) ∈ E) {v' : Value} {b : List UInt8}
    (ho : OwnB w2 0 v' (xf.s ++ b)) (hgr : w.grownBy w2 xv.ownBlock) (hloc : ∀ g, v'.ownBlock = some g → xv.ownBlock = some g ∨ w.heap.size ≤ g) :
    DiskM (w2.setCell ⟨xb, 0, none⟩ v') F d B (insK Ent.k ⟨addF xf b, xb, v'⟩ E) u fuse down ∧ Kept F w (w2.setCell ⟨xb, 0, none⟩ v') ∧ Blk w2 xb [xv, .int .i64 xf.lasts, .bool xf.stays] 68 ∧ Blk w2 d [.map (some B), .int .i64 u, .int .i64 fuse, .bool down] 74 ∧ d ≠ xb := by
  have hx := h.each _ hxm
  have hc2 := hx.cells.kept hgr (fun e => own_ne hx.row hx.cells (by decide) e.symm)
  have hs2 := h.self.kept hgr (fun e => own_ne hx.row h.self (by decide) e.symm)
  have hk2 := ((Kept.refl (fun i => i = xb ∨ xv.ownBlock = some i) w).grown hgr (fun j hj => .inr (.inr hj))).set ⟨xb, 0, none⟩ v' (.inr (.inl rfl))
  have hx2 : EntM (w2.setCell ⟨xb, 0, none⟩ v') F ⟨addF xf b, xb, v'⟩ := ⟨hc2.set 0 v', World.ownsRow.kept ho (grownBy_set w2 ⟨xb, 0, none⟩ v') (by
      cases hvo : v'.ownBlock with
      | none => exact .inl rfl
      | some g => exact .inr (fun e => own_ne ho hc2 (by decide) (by rw [hvo, e]))), hx.fb, fun g hg' => by
    rcases hloc g hg' with h1 | h1
    · exact hx.fr g h1
    · exact hF g h1⟩
  refine ⟨h.renew (x := ⟨addF xf b, xb, v'⟩) hxm rfl rfl hk2 hx2 hloc, hk2.mono (fun i hi => ?_), hc2, hs2, h.self.ne hx.cells (by decide)⟩
  rcases hi with rfl | hi
  · exact hx.fb
  · exact hx.fr i hi
theorem Seen.keptM {w w' : World} {b B : Nat} {v : Value} {l : List UInt8} {E : List Ent} (h : Seen w b v l) (hm : DMap w B E) (hg : w.grownBy w' (some B)) : Seen w' b v l := by
  rcases h with h | ⟨ad, cap, hv, hc, hb, hh⟩
  · exact .inl h
  · refine .inr ⟨ad, cap, hv, hc, hb, fun j hj => ?_⟩
    have h1 := hh j hj
    have h2 : ∃ cs t fr, w.heap[(ad.add j).block]? = some (.cells cs t fr) := by
      unfold World.cell? at h1
      split at h1
      · rename_i c t fr heq
        exact ⟨c, t, fr, heq⟩
      · cases h1
    obtain ⟨cs, t, fr, h2⟩ := h2
    rw [World.cell?_of_block (w := w) (a := ad.add j) (hg.block _ (lt_of_block h2) (fun e => hm.notCells h2 (Option.some.inj e)))]
    exact h1
set_option maxRecDepth 100000 in
set_option maxHeartbeats 1000000 in
theorem append_new {w : World} {F : Nat → Prop} (hF : ∀ i, w.heap.size ≤ i → F i) {d B : Nat} {E : List Ent} {k : Dk} (h : DiskM w F d B E (tot k.L : Nat) k.fuse k.down) (hE : E.map Ent.f = k.L) (hok : Ok k) (n : List UInt8) (hn : n.length ≤ 1000000) (xv : Value) (b : List UInt8) (Bx : Nat) (hx : Seen w Bx xv b) (hBx : Bx ≤ w.heap.size) (hb : b.length ≤ 10000000) (hm : mayHold k n b.length = 0)
    (hg : getK Ent.k n E = none) :
    Calls Try.prog 25 #[.pointer (some ⟨d, 0, none⟩), .string (bs n), xv] w fun e w' => e = .returned (.int .i64 (appendE k n b : Nat)) ∧ DiskAt w' F d (appendD k n b) ∧ Kept F w w' := by
  have hgf : get n k.L = none := by rw [get_E hE, hg]; rfl
  have hold := hold_dk ⟨B, E, h, hE, hok⟩ n hn b.length
  rw [hm] at hold
  have hs := Lib.hid hold
  have hEa : appendE k n b = burnE k.fuse := by unfold appendE; rw [if_neg (by rw [hm]; simp)]
  have hDa : appendD k n b = burn (withL k (ins (addF ⟨n, [], 0, false⟩ b) k.L)) := by unfold appendD; rw [if_neg (by rw [hm]; simp), old_none hgf]
  rw [hEa, hDa]
  obtain ⟨hg1, hg2, hg3⟩ := hold_good hm
  obtain ⟨_, hn1, hn2⟩ := ask_good hg1
  have htot := hok.tot
  have htn : tot (ins (addF ⟨n, [], 0, false⟩ b) k.L) = tot k.L + b.length := by
    rw [tot_ins_new (by exact hgf)]
    simp [addF]
  have hok' : Ok (withL k (ins (addF ⟨n, [], 0, false⟩ b) k.L)) := ok_ins hok hn1 hn2 (Nat.zero_le _) (by rw [htn]; omega) (fun _ => hg3 hgf)
  have hlook := h.map.look (n := n) (by unfold maxLen; omega)
  rw [hg] at hlook
  simp only [Option.isSome_none] at hlook
  obtain ⟨q, cap, rfl, _⟩ := hx.len
  obtain ⟨nb, hnb⟩ : ∃ nb, w.heap.size = nb := ⟨_, rfl⟩
  have hdl := h.self.lt
  have hne : d ≠ nb := by omega
  have c0 := h.self.c 0 rfl
  have c1 := h.self.c 1 rfl
  have hkey := key9 (n := n) (by unfold maxLen; omega)
  have hEl : E.length ≤ 4096 := by rw [← len_E hE]; exact hok.len
  have HX := Lib.hid hx
  have HBX := Lib.hid hBx
  have HH := Lib.hid h
  have HTN := Lib.hid htn
  have HOK := Lib.hid hok'
  have HT : Hid (tot k.L + b.length ≤ 4194304) := Lib.hid (by omega)
  have HF := Lib.hid hF
  have hA := h.alloc (.cells #[.slice none 0 0, .int .i64 0, .bool false] 68)
  have c0' := hA.self.c 0 rfl
  have HA := Lib.hid hA
  have hmap := (h.alloc (.cells #[.slice none 0 0, .int .i64 0, .bool false] 68)).map
  have hneF : (d = nb) = False := by simp [hne]
  have hneF' : (nb = d) = False := by simp [Ne.symm hne]
  clear hx h htn hok' htot hg1 hg3 hok hm hold hEa hDa hF hBx hne hA
  go_enter Try.func25, Try.ntmps25
  go_wp2_with fail
  refine (hs.out).mono ?_
  rintro e w1 ⟨rfl, rfl⟩
  go_wp2_with (at_mapUpdate; refine wpList_mapUpdate_own _ rfl _ _ _ 72 rfl 9 63 law9 Try.underlying72 relem B E.length (mapOf E) rfl hmap (by unfold maxLen; omega) _ _ (.string n) rfl rfl hkey (.lit (.int .i64 nb)) [] ?c1 ?_)
  case c1 => rfl
  intro w2 hown2 hgr2
  have hxA : EntM (w1.alloc (.cells #[.slice none 0 0, .int .i64 0, .bool false] 68)) F ⟨⟨n, [], 0, false⟩, nb, .slice none 0 0⟩ :=
    ⟨Blk.at hnb.symm [_, _, _] 68, OwnB.nil _ _, HF.out _ (by show w1.heap.size ≤ nb; omega), fun g hg' => by cases hg'⟩
  have hput := HA.out.put (x := ⟨⟨n, [], 0, false⟩, nb, .slice none 0 0⟩) hxA hgr2 hown2 (fun y hy _ => ⟨by
    have := (HH.out.each y hy).cells.lt
    show nb ≠ y.blk
    omega, fun g hg' => by cases hg'⟩)
  have hsx := (HX.out.below ((Below.refl w1.heap.size w1).alloc (Nat.le_refl _) (.cells #[.slice none 0 0, .int .i64 0, .bool false] 68)) HBX.out).keptM hmap hgr2
  have hkA : Kept F w1 w2 := ((Kept.refl F w1).alloc _).grown hgr2 (fun j hj => by cases hj; exact .inr HH.out.fB)
  have hmem : (⟨⟨n, [], 0, false⟩, nb, .slice none 0 0⟩ : Ent) ∈ insK Ent.k ⟨⟨n, [], 0, false⟩, nb, .slice none 0 0⟩ E := (mem_insK HH.out.sorted).2 (.inl rfl)
  have hF2 : ∀ i, w2.heap.size ≤ i → F i := fun i hi => HF.out i (by have := hkA.size; omega)
  have HSX := Lib.hid hsx
  have HP := Lib.hid hput
  have HKA := Lib.hid hkA
  have HMEM := Lib.hid hmem
  have HF2 := Lib.hid hF2
  have HROW := Lib.hid (OwnB.nil w2 0)
  have e0 := (hput.each _ hmem).cells.c 0 rfl
  have ef0 := (hput.each _ hmem).cells.f 0
  have d0 := hput.self.c 0 rfl
  have d1 := hput.self.c 1 rfl
  have HLEN : Hid (([] : List UInt8).length + b.length ≤ 2000000000) := Lib.hid (by simp; omega)
  clear hput hsx hkA hmem hF2 hxA hown2 hgr2 HA hmap c0' c0 c1 hlook hs hdl hnb
  go_wp2_with (at_builtin; refine wpList_append_loc rfl (.tmp 41) (.tmp 42) rfl (.slice none 0 0) [] rfl HROW.out Bx _ b rfl HSX.out HLEN.out ?_)
  intro v' w3 ho hgr hloc
  obtain ⟨q2, cap2, hv2⟩ := ho.out.len
  obtain ⟨a1, a2, a3, a4, a5⟩ := append_mem HF2.out HP.out HMEM.out (b := b) ho.out hgr.out hloc.out
  have hf0 := a3.f 0
  have hf1 := a4.f 1
  have hcc0 := a3.c 0 rfl
  have hcc1 := a4.c 1 rfl
  have HD2 := Lib.hid a1
  have HK3 := Lib.hid (HKA.out.trans a2)
  have hfd := HP.out.fd
  obtain ⟨m2, hm2⟩ : ∃ m2, b.length = m2 := ⟨_, rfl⟩
  have hv2' : v' = .slice q2 m2 cap2 := by rw [hv2, ← hm2]
  have Hm2 := Lib.hid hm2
  clear hv2 hm2
  subst hv2'
  clear a1 a2 a3 a4 a5 e0 ef0 d0 d1 hgr hloc ho
  have hEE : Hid ((insK Ent.k ⟨addF ⟨n, [], 0, false⟩ b, nb, .slice q2 m2 cap2⟩ (insK Ent.k ⟨⟨n, [], 0, false⟩, nb, .slice none 0 0⟩ E)).map Ent.f = (withL k (ins (addF ⟨n, [], 0, false⟩ b) k.L)).L) := Lib.hid (by
    rw [insK_insK (by rfl), insK_map (k := Ent.k) (k' := Fl.name) (g := Ent.f) (fun _ => rfl), hE]; rfl)
  have hUU : Hid (((tot k.L : Nat) : Int) + (b.length : Int) = ((tot (withL k (ins (addF ⟨n, [], 0, false⟩ b) k.L)).L : Nat) : Int)) := Lib.hid (by
    have := HTN.out
    show _ = ((tot (ins (addF ⟨n, [], 0, false⟩ b) k.L) : Nat) : Int)
    omega)
  go_wp2_with fail
  refine (step_dk (k := withL k (ins (addF ⟨n, [], 0, false⟩ b) k.L)) (HD2.out.setUsed _) hEE.out hUU.out HOK.out).mono ?_
  rintro e w4 ⟨rfl, hD, hg3⟩
  have HDD := Lib.hid hD
  have HKK := Lib.hid (HK3.out.grown ((grownBy_set _ ⟨d, 1, none⟩ _).trans hg3) (fun j hj => by cases hj; exact .inr hfd))
  clear hD hg3
  go_wp2_with fail
  go_ret
  exact ⟨rfl, HDD.out, HKK.out⟩
/-- Append, whatever there is. -/
theorem append_any {w : World} {F : Nat → Prop} (hF : ∀ i, w.heap.size ≤ i → F i) {d : Nat} {k : Dk} (h : DiskAt w F d k) (n : List UInt8) (hn : n.length ≤ 1000000) (xv : Value) (b : List UInt8) (Bx : Nat) (hx : Seen w Bx xv b) (hBx : Bx ≤ w.heap.size) (hb : b.length ≤ 10000000) :
    Calls Try.prog 25 #[.pointer (some ⟨d, 0, none⟩), .string (bs n), xv] w fun e w' => e = .returned (.int .i64 (appendE k n b : Nat)) ∧ DiskAt w' F d (appendD k n b) ∧ Kept F w w' := by
  by_cases hm : mayHold k n b.length = 0
  · obtain ⟨B, E, hd, hE, hok⟩ := h
    cases hg : getK Ent.k n E with
    | none => exact append_new hF hd hE hok n hn xv b Bx hx hBx hb hm hg
    | some x => exact append_old hF hd hE hok n hn xv b Bx hx hb hm x hg
  · refine (append_no h n hn xv b Bx hx hb hm).mono ?_
    rintro e w' ⟨rfl, rfl⟩
    refine ⟨by unfold appendE; rw [if_pos hm], ?_, Kept.refl _ _⟩
    unfold appendD
    rw [if_pos hm]
    exact h
end Go.Proofs.Ytfkefppabjbbdaa
