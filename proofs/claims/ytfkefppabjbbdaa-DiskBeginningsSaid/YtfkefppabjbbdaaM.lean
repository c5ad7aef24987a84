/- The program's Replace. -/
import Derived.Test.YtfkefppabjbbdaaL
namespace Go.Proofs.Ytfkefppabjbbdaa
open Go.RowKit Go.Maps
set_option linter.unusedVariables false
theorem Seen.keptB {w w' : World} {d : Nat} {cs : List Value} {t : TypeId} {b : Nat} {v : Value} {l : List UInt8} (h : Seen w b v l) (hd : Blk w d cs t) (hcs : ∀ c ∈ cs, ∀ x, c ≠ .int .u8 x) (hg : w.grownBy w' (some d)) (hb : b ≤ w.heap.size) : Seen w' b v l := by
  rcases h with h | ⟨ad, cap, hv, hc, hbb, hh⟩
  · exact .inl h
  · refine .inr ⟨ad, cap, hv, hc, hbb, fun j hj => ?_⟩
    have h1 := hh j hj
    have hlt : (ad.add j).block < w.heap.size := by rw [add_block]; have := hbb (by omega); omega
    rw [World.cell?_of_block (w := w) (a := ad.add j) (hg.block _ hlt (fun e => ?_))]
    · exact h1
    · have e' : (ad.add j).block = d := Option.some.inj e
      unfold Blk at hd
      unfold World.cell? at h1
      rw [e', hd] at h1
      simp only at h1
      split at h1
      · cases h1
      · have hm : (.int .u8 (l[j].toNat : Int) : Value) ∈ cs := by
          rw [List.getElem?_toArray] at h1
          exact List.mem_of_getElem? h1
        exact hcs _ hm _ rfl
theorem Seen.keptD {w w' : World} {F : Nat → Prop} {d B : Nat} {E : List Ent} {u fuse : Int} {down : Bool} {v : Value} {l : List UInt8} (h : Seen w w.heap.size v l) (hm : DiskM w F d B E u fuse down) (hg : w.grownBy w' (some d)) : Seen w' w'.heap.size v l :=
  (h.keptB hm.self (by
    intro c hc x
    simp only [List.mem_cons, List.not_mem_nil, or_false] at hc
    rcases hc with rfl | rfl | rfl | rfl <;> simp) hg (Nat.le_refl _)).mono hg.size
theorem mid_mem {w2 w3 w5 : World} {F : Nat → Prop} {d B : Nat} {E : List Ent} {u fuse : Int} {down : Bool} (hm : DiskM w2 F d B E u fuse down) (hb : Below w2.heap.size w2 w3) (hk : Kept (fun i => w3.heap.size ≤ i) w3 w5) : DiskM w5 F d B E u fuse down :=
  (((hm.below hb).mono (G := fun i => F i ∧ i < w3.heap.size) (fun i hi hl => ⟨hi, hl⟩)).far hk (fun i hi _ => by omega)).mono (fun i hi _ => hi.1)
/-- A disk in memory, when a new file in a new block has been put into the map. -/
theorem put_mem {w2 w3 w5 w6 : World} {F : Nat → Prop} {d B : Nat} {E : List Ent} {u fuse : Int} {down : Bool} (hF : ∀ i, w2.heap.size ≤ i → F i) (hm : DiskM w2 F d B E u fuse down) (hb : Below w2.heap.size w2 w3) {n b : List UInt8} {v : Value}
    (ho : OwnB w3 w2.heap.size v b) {nb : Nat} (hnb : nb = w3.heap.size) (hk : Kept (fun i => w3.heap.size ≤ i) w3 w5) (hbl : Blk w5 nb [v, .int .i64 (b.length : Nat), .bool true] 68) (hg : w5.grownBy w6 (some B))
    (hown : w6.ownsMap Try.prog 9 relem B (E.length + 1) ((mapOf E).put (.string n) (.lit (.int .i64 nb)))) :
    DiskM w6 F d B (insK Ent.k ⟨⟨n, b, b.length, true⟩, nb, v⟩ E) u fuse down ∧ Kept F w2 w6 := by
  have hs := hb.size
  have hm3 := hm.below hb
  have hm5 := mid_mem hm hb hk
  have hx : EntM w5 F ⟨⟨n, b, b.length, true⟩, nb, v⟩ := ⟨hbl, (ho.keptF hk (fun g hg' => by
      have := own_blk ho hg'
      obtain ⟨cur, hh⟩ := this
      have := lt_of_block hh
      omega)).mono (Nat.zero_le _), hF _ (by show w2.heap.size ≤ nb; omega), fun g hg' => hF g (own_block ho g hg')⟩
  refine ⟨hm5.put hx hg hown (fun y hy _ => ⟨?_, fun g h1 h2 => ?_⟩), ?_⟩
  · have := (hm3.each y hy).cells.lt
    show nb ≠ y.blk
    omega
  · have e1 := own_block ho g h1
    obtain ⟨cur, hh⟩ := own_blk (hm.each y hy).row h2
    have := lt_of_block hh
    omega
  · have k1 : Kept F w2 w3 := (Kept.refl F w2).of_below hb (fun i hi _ => hi)
    have k2 : Kept F w2 w5 := ⟨hk.os.trans k1.os, hk.tape.trans k1.tape, hk.output.trans k1.output, Nat.le_trans k1.size hk.size, fun i hi hF' => (hk.block i (by omega) (by omega)).trans (k1.block i hi hF')⟩
    exact k2.grown hg (fun j hj => by cases hj; exact .inr hm.fB)
theorem tot_replace {k : Dk} (hok : Ok k) {n b : List UInt8} : (tot (ins ⟨n, b, b.length, true⟩ k.L) : Int) = (tot k.L : Int) + moreR k n b := by
  unfold moreR
  cases hg : get n k.L with
  | none =>
    rw [old_none hg, tot_ins_new (by exact hg)]
    simp
  | some f =>
    rw [old_some hg]
    obtain ⟨hf, hk⟩ := getK_some hg
    have e := tot_ins_old (f := ⟨n, b, b.length, true⟩) hok.sorted hf hk
    simp only at e
    omega
theorem replace_none {k : Dk} {n b : List UInt8} (h : get n k.L = none) : moreR k n b = (b.length : Int) := by
  unfold moreR
  rw [old_none h]
  simp
theorem replace_some {k : Dk} {n b : List UInt8} {f : Fl} (h : get n k.L = some f) : moreR k n b = (b.length : Int) - (f.s.length : Int) := by
  unfold moreR
  rw [old_some h]
theorem get_of {w : World} {F : Nat → Prop} {d B : Nat} {E : List Ent} {k : Dk} {u fuse : Int} {down : Bool} (hm : DiskM w F d B E u fuse down) (hE : E.map Ent.f = k.L) (hok : Ok k) (n : List UInt8) :
    (get n k.L = none ∧ getK Ent.k n E = none) ∨ ∃ x, getK Ent.k n E = some x ∧ get n k.L = some x.f := by
  cases hg : getK Ent.k n E with
  | none => exact .inl ⟨by rw [get_E hE, hg]; rfl, rfl⟩
  | some x => exact .inr ⟨x, rfl, by rw [get_E hE, hg]; rfl⟩
set_option maxRecDepth 100000 in
theorem replace_none_no {w : World} {F : Nat → Prop} (hF : ∀ i, w.heap.size ≤ i → F i) {d B : Nat} {E : List Ent} {k : Dk} (hm : DiskM w F d B E (tot k.L : Nat) k.fuse k.down) (hE : E.map Ent.f = k.L) (hok : Ok k) (n : List UInt8) (hn : n.length ≤ 1000000) (xv : Value) (b : List UInt8) (hx : Seen w w.heap.size xv b) (hb : b.length ≤ 10000000)
    (hgf : get n k.L = none) (hg : getK Ent.k n E = none) (a : Nat) (hA : mayHold k n (moreR k n b) = a) (ha : a ≠ 0) :
    Calls Try.prog 22 #[.pointer (some ⟨d, 0, none⟩), .string (bs n), xv] w fun e w' => e = .returned (.int .i64 (a : Nat)) ∧ w' = w := by
  have hold := hold_dk ⟨B, E, hm, hE, hok⟩ n hn (moreR k n b)
  rw [hA] at hold
  have hmore := replace_none (b := b) hgf
  have hlook := hm.map.look (n := n) (by unfold maxLen; omega)
  rw [hg] at hlook
  simp only [Option.isSome_none] at hlook
  have HX := Lib.hid hx
  have c0 := hm.self.c 0 rfl
  obtain ⟨q, cap, rfl, _⟩ := hx.len
  
  rw [hmore] at hold
  have hs1 := Lib.hid hold
  have g0 : ((a : Int) == 0) = false := by simp; omega
  clear hm hE hok hx hold hmore hA hg hgf ha
  go_enter Try.func22, Try.ntmps22
  go_wp2_with fail
  refine (hs1.out).mono ?_
  rintro e w1 ⟨rfl, rfl⟩
  go_wp2_with fail
  go_ret
  exact ⟨rfl, rfl⟩
set_option maxRecDepth 100000 in
theorem replace_none_yes {w : World} {F : Nat → Prop} (hF : ∀ i, w.heap.size ≤ i → F i) {d B : Nat} {E : List Ent} {k : Dk} (hm : DiskM w F d B E (tot k.L : Nat) k.fuse k.down) (hE : E.map Ent.f = k.L) (hok : Ok k) (n : List UInt8) (hn : n.length ≤ 1000000) (xv : Value) (b : List UInt8) (hx : Seen w w.heap.size xv b) (hb : b.length ≤ 10000000)
    (hgf : get n k.L = none) (hg : getK Ent.k n E = none) (a : Nat) (hA : mayHold k n (moreR k n b) = a) (ha : a = 0) :
    Calls Try.prog 22 #[.pointer (some ⟨d, 0, none⟩), .string (bs n), xv] w fun e w' => e = .returned (.int .i64 (burnE k.fuse : Nat)) ∧ DiskAt w' F d (if k.fuse = 0 then burn k else burn (withL k (ins ⟨n, b, b.length, true⟩ k.L))) ∧ Kept F w w' := by
  have hold := hold_dk ⟨B, E, hm, hE, hok⟩ n hn (moreR k n b)
  rw [hA] at hold
  have hmore := replace_none (b := b) hgf
  have hlook := hm.map.look (n := n) (by unfold maxLen; omega)
  rw [hg] at hlook
  simp only [Option.isSome_none] at hlook
  have HX := Lib.hid hx
  have c0 := hm.self.c 0 rfl
  obtain ⟨q, cap, rfl, _⟩ := hx.len
  
  rw [hmore] at hold
  have hs1 := Lib.hid hold
  subst ha
  obtain ⟨hh1, hh2, hh3⟩ := hold_good hA
  obtain ⟨_, hn1, hn2⟩ := ask_good hh1
  have htr := tot_replace hok (n := n) (b := b)
  rw [hmore] at htr hh2
  have hok' : Ok (withL k (ins ⟨n, b, b.length, true⟩ k.L)) := ok_ins hok hn1 hn2 (Nat.le_refl _) (by have := htr; omega) (fun hnn => hh3 hnn)
  have hs2 := Lib.hid (step_any hm hok.fuse hok.top)
  have hkey := key9 (n := n) (by unfold maxLen; omega)
  have hEl : E.length ≤ 4096 := by rw [← len_E hE]; exact hok.len
  have HM := Lib.hid hm
  have HE := Lib.hid hE
  have HOK := Lib.hid hok
  have HOK' := Lib.hid hok'
  have HTR := Lib.hid htr
  have htt := hok.tot
  obtain ⟨T, hTT⟩ : ∃ T, tot k.L = T := ⟨_, rfl⟩
  rw [hTT] at htt hh2 hs2
  have HTT := Lib.hid hTT
  have HF := Lib.hid hF
  clear hm hE hok hx hold hmore hA hg hgf hok' htr hh1 hh3 hTT hF
  by_cases h0 : k.fuse = 0
  · have hb : burnE k.fuse = 8 := by unfold burnE; rw [if_pos h0]
    rw [if_pos h0, hb]
    rw [hb] at hs2
    have HB : Hid (∀ w', DiskM w' F d B E (T : Nat) (burnF k.fuse) (burnB k.fuse k.down) → DiskAt w' F d (burn k)) := Lib.hid (fun w' hm' => burn_at hm' HE.out (by rw [HTT.out]) HOK.out)
    clear hb h0
    go_enter Try.func22, Try.ntmps22
    go_wp2_with fail
    refine (hs1.out).mono ?_
    rintro e w1 ⟨rfl, rfl⟩
    go_wp2_with fail
    refine (hs2.out).mono ?_
    rintro e w2 ⟨rfl, hm2, hg2⟩
    have HD := Lib.hid (HB.out _ hm2)
    have HK := Lib.hid ((Kept.refl F w1).grown hg2 (fun j hj => by cases hj; exact .inr HM.out.fd))
    clear hm2 hg2
    go_wp2_with fail
    go_ret
    exact ⟨rfl, HD.out, HK.out⟩
  · have hb8 : burnE k.fuse = 0 := by unfold burnE; rw [if_neg h0]
    rw [if_neg h0, hb8]
    rw [hb8] at hs2
    clear hb8 h0
    go_enter Try.func22, Try.ntmps22
    go_wp2_with fail
    refine (hs1.out).mono ?_
    rintro e w1 ⟨rfl, rfl⟩
    go_wp2_with fail
    refine (hs2.out).mono ?_
    rintro e w2 ⟨rfl, hm2, hg2⟩
    have HM2 := Lib.hid hm2
    have HK := Lib.hid ((Kept.refl F w1).grown hg2 (fun j hj => by cases hj; exact .inr HM.out.fd))
    have hcop := Lib.hid (copied_any (l := b) (by omega) (HX.out.keptD HM.out hg2))
    clear hm2 hg2
    go_wp2_with fail
    refine (hcop.out).mono ?_
    rintro e w3 ⟨u3, rfl, ho3, ⟨g3, rfl⟩, hb3⟩
    have HO3 := Lib.hid ho3
    have HB3 := Lib.hid hb3
    have hlast := Lib.hid (last_any (Blk.new w3 [.slice (some ⟨g3, 0, none⟩) b.length b.length, .int .i64 0, .bool false] 68))
    have c0' := (HM2.out.below hb3).self.c 0 rfl
    obtain ⟨nb, hnb⟩ : ∃ nb, w3.heap.size = nb := ⟨_, rfl⟩
    rw [hnb] at hlast
    clear ho3 hb3
    go_wp2_with fail
    refine (hlast.out).mono ?_
    rintro e w5 ⟨rfl, hb5, hg5⟩
    have hk5 : Kept (fun i => w3.heap.size ≤ i) w3 w5 := ((Kept.refl _ w3).alloc _).grown hg5 (fun j hj => by cases hj; exact .inl (by omega))
    have hm5 := mid_mem HM2.out HB3.out hk5
    have c0'' := hm5.self.c 0 rfl
    have hmap := hm5.map
    have HB5 := Lib.hid hb5
    have HK5 := Lib.hid hk5
    have HNB := Lib.hid hnb
    clear hb5 hg5 hk5 hm5 c0' c0 hnb
    go_wp2_with (at_mapUpdate; refine wpList_mapUpdate_own _ rfl _ _ _ 72 rfl 9 63 law9 Try.underlying72 relem B E.length (mapOf E) rfl hmap (by unfold maxLen; omega) _ _ (.string n) rfl rfl hkey (.lit (.int .i64 nb)) [] ?c1 ?_)
    case c1 => rfl
    intro w6 hown6 hgr6
    have hF2 : ∀ i, w2.heap.size ≤ i → F i := fun i hi => HF.out i (by have := HK.out.size; omega)
    obtain ⟨hm6, hk6⟩ := put_mem hF2 HM2.out HB3.out (n := n) (b := b) HO3.out HNB.out.symm HK5.out HB5.out hgr6 hown6
    have c1 := hm6.self.c 1 rfl
    have f1 := hm6.self.f 1
    have HM6 := Lib.hid hm6
    have HKK := Lib.hid (HK.out.trans hk6)
    have HU : Hid ((T : Int) + (b.length : Int) = ((tot (withL k (ins ⟨n, b, b.length, true⟩ k.L)).L : Nat) : Int)) := Lib.hid (by
      have h1 := HTR.out
      have h2 := HTT.out
      show _ = ((tot (ins ⟨n, b, b.length, true⟩ k.L) : Nat) : Int)
      omega)
    clear hmap hown6 hgr6 hF2 hm6 hk6 c0'' hh2
    have hb1 : (0 : Int) ≤ (T : Int) + (b.length : Int) := by rw [HU.out]; omega
    have hb2 : (T : Int) + (b.length : Int) ≤ 4194304 := by rw [HU.out]; have := HOK'.out.tot; omega
    go_wp2_with fail
    go_ret
    exact ⟨rfl, burn_at (k := withL k (ins ⟨n, b, b.length, true⟩ k.L)) (HM6.out.setUsed _) (insE HE.out _) HU.out HOK'.out, HKK.out.set _ _ (.inr HM.out.fd)⟩
set_option maxRecDepth 100000 in
theorem replace_some_no {w : World} {F : Nat → Prop} (hF : ∀ i, w.heap.size ≤ i → F i) {d B : Nat} {E : List Ent} {k : Dk} (hm : DiskM w F d B E (tot k.L : Nat) k.fuse k.down) (hE : E.map Ent.f = k.L) (hok : Ok k) (n : List UInt8) (hn : n.length ≤ 1000000) (xv : Value) (b : List UInt8) (hx : Seen w w.heap.size xv b) (hb : b.length ≤ 10000000)
    (x : Ent) (hg : getK Ent.k n E = some x) (hgf : get n k.L = some x.f) (a : Nat) (hA : mayHold k n (moreR k n b) = a) (ha : a ≠ 0) :
    Calls Try.prog 22 #[.pointer (some ⟨d, 0, none⟩), .string (bs n), xv] w fun e w' => e = .returned (.int .i64 (a : Nat)) ∧ w' = w := by
  have hold := hold_dk ⟨B, E, hm, hE, hok⟩ n hn (moreR k n b)
  rw [hA] at hold
  have hmore := replace_some (b := b) hgf
  have hlook := hm.map.look (n := n) (by unfold maxLen; omega)
  rw [hg] at hlook
  simp only [Option.isSome_some] at hlook
  have HX := Lib.hid hx
  have c0 := hm.self.c 0 rfl
  obtain ⟨q, cap, rfl, _⟩ := hx.len
  have hxe := hm.each x (getK_some hg).1
  obtain ⟨q1, cap1, hv1⟩ := hxe.row.len
  have e0 := hxe.cells.c 0 rfl
  rw [hv1] at e0
  have htx : x.f.s.length ≤ 4194304 := Nat.le_trans (tot_mem (getK_some hgf).1) hok.tot
  obtain ⟨xb, hxb⟩ : ∃ y, x.blk = y := ⟨_, rfl⟩
  rw [hxb] at hlook e0
  obtain ⟨sl, hsl⟩ : ∃ y, x.f.s.length = y := ⟨_, rfl⟩
  rw [hsl] at hmore e0 htx
  clear hxe hv1 hxb hsl
  rw [hmore] at hold
  have hs1 := Lib.hid hold
  have g0 : ((a : Int) == 0) = false := by simp; omega
  clear hm hE hok hx hold hmore hA hg hgf ha
  go_enter Try.func22, Try.ntmps22
  go_wp2_with fail
  refine (hs1.out).mono ?_
  rintro e w1 ⟨rfl, rfl⟩
  go_wp2_with fail
  go_ret
  exact ⟨rfl, rfl⟩
set_option maxRecDepth 100000 in
theorem replace_some_yes {w : World} {F : Nat → Prop} (hF : ∀ i, w.heap.size ≤ i → F i) {d B : Nat} {E : List Ent} {k : Dk} (hm : DiskM w F d B E (tot k.L : Nat) k.fuse k.down) (hE : E.map Ent.f = k.L) (hok : Ok k) (n : List UInt8) (hn : n.length ≤ 1000000) (xv : Value) (b : List UInt8) (hx : Seen w w.heap.size xv b) (hb : b.length ≤ 10000000)
    (x : Ent) (hg : getK Ent.k n E = some x) (hgf : get n k.L = some x.f) (a : Nat) (hA : mayHold k n (moreR k n b) = a) (ha : a = 0) :
    Calls Try.prog 22 #[.pointer (some ⟨d, 0, none⟩), .string (bs n), xv] w fun e w' => e = .returned (.int .i64 (burnE k.fuse : Nat)) ∧ DiskAt w' F d (if k.fuse = 0 then burn k else burn (withL k (ins ⟨n, b, b.length, true⟩ k.L))) ∧ Kept F w w' := by
  have hold := hold_dk ⟨B, E, hm, hE, hok⟩ n hn (moreR k n b)
  rw [hA] at hold
  have hmore := replace_some (b := b) hgf
  have hlook := hm.map.look (n := n) (by unfold maxLen; omega)
  rw [hg] at hlook
  simp only [Option.isSome_some] at hlook
  have HX := Lib.hid hx
  have c0 := hm.self.c 0 rfl
  obtain ⟨q, cap, rfl, _⟩ := hx.len
  have hxe := hm.each x (getK_some hg).1
  obtain ⟨q1, cap1, hv1⟩ := hxe.row.len
  have e0 := hxe.cells.c 0 rfl
  rw [hv1] at e0
  have htx : x.f.s.length ≤ 4194304 := Nat.le_trans (tot_mem (getK_some hgf).1) hok.tot
  obtain ⟨xb, hxb⟩ : ∃ y, x.blk = y := ⟨_, rfl⟩
  rw [hxb] at hlook e0
  obtain ⟨sl, hsl⟩ : ∃ y, x.f.s.length = y := ⟨_, rfl⟩
  rw [hsl] at hmore e0 htx
  clear hxe hv1 hxb hsl
  rw [hmore] at hold
  have hs1 := Lib.hid hold
  subst ha
  obtain ⟨hh1, hh2, hh3⟩ := hold_good hA
  obtain ⟨_, hn1, hn2⟩ := ask_good hh1
  have htr := tot_replace hok (n := n) (b := b)
  rw [hmore] at htr hh2
  have hok' : Ok (withL k (ins ⟨n, b, b.length, true⟩ k.L)) := ok_ins hok hn1 hn2 (Nat.le_refl _) (by have := htr; omega) (fun hnn => hh3 hnn)
  have hs2 := Lib.hid (step_any hm hok.fuse hok.top)
  have hkey := key9 (n := n) (by unfold maxLen; omega)
  have hEl : E.length ≤ 4096 := by rw [← len_E hE]; exact hok.len
  have HM := Lib.hid hm
  have HE := Lib.hid hE
  have HOK := Lib.hid hok
  have HOK' := Lib.hid hok'
  have HTR := Lib.hid htr
  have htt := hok.tot
  obtain ⟨T, hTT⟩ : ∃ T, tot k.L = T := ⟨_, rfl⟩
  rw [hTT] at htt hh2 hs2
  have HTT := Lib.hid hTT
  have HF := Lib.hid hF
  clear hm hE hok hx hold hmore hA hg hgf hok' htr hh1 hh3 hTT hF
  by_cases h0 : k.fuse = 0
  · have hb : burnE k.fuse = 8 := by unfold burnE; rw [if_pos h0]
    rw [if_pos h0, hb]
    rw [hb] at hs2
    have HB : Hid (∀ w', DiskM w' F d B E (T : Nat) (burnF k.fuse) (burnB k.fuse k.down) → DiskAt w' F d (burn k)) := Lib.hid (fun w' hm' => burn_at hm' HE.out (by rw [HTT.out]) HOK.out)
    clear hb h0
    go_enter Try.func22, Try.ntmps22
    go_wp2_with fail
    refine (hs1.out).mono ?_
    rintro e w1 ⟨rfl, rfl⟩
    go_wp2_with fail
    refine (hs2.out).mono ?_
    rintro e w2 ⟨rfl, hm2, hg2⟩
    have HD := Lib.hid (HB.out _ hm2)
    have HK := Lib.hid ((Kept.refl F w1).grown hg2 (fun j hj => by cases hj; exact .inr HM.out.fd))
    clear hm2 hg2
    go_wp2_with fail
    go_ret
    exact ⟨rfl, HD.out, HK.out⟩
  · have hb8 : burnE k.fuse = 0 := by unfold burnE; rw [if_neg h0]
    rw [if_neg h0, hb8]
    rw [hb8] at hs2
    clear hb8 h0
    go_enter Try.func22, Try.ntmps22
    go_wp2_with fail
    refine (hs1.out).mono ?_
    rintro e w1 ⟨rfl, rfl⟩
    go_wp2_with fail
    refine (hs2.out).mono ?_
    rintro e w2 ⟨rfl, hm2, hg2⟩
    have HM2 := Lib.hid hm2
    have HK := Lib.hid ((Kept.refl F w1).grown hg2 (fun j hj => by cases hj; exact .inr HM.out.fd))
    have hcop := Lib.hid (copied_any (l := b) (by omega) (HX.out.keptD HM.out hg2))
    clear hm2 hg2
    go_wp2_with fail
    refine (hcop.out).mono ?_
    rintro e w3 ⟨u3, rfl, ho3, ⟨g3, rfl⟩, hb3⟩
    have HO3 := Lib.hid ho3
    have HB3 := Lib.hid hb3
    have hlast := Lib.hid (last_any (Blk.new w3 [.slice (some ⟨g3, 0, none⟩) b.length b.length, .int .i64 0, .bool false] 68))
    have c0' := (HM2.out.below hb3).self.c 0 rfl
    obtain ⟨nb, hnb⟩ : ∃ nb, w3.heap.size = nb := ⟨_, rfl⟩
    rw [hnb] at hlast
    clear ho3 hb3
    go_wp2_with fail
    refine (hlast.out).mono ?_
    rintro e w5 ⟨rfl, hb5, hg5⟩
    have hk5 : Kept (fun i => w3.heap.size ≤ i) w3 w5 := ((Kept.refl _ w3).alloc _).grown hg5 (fun j hj => by cases hj; exact .inl (by omega))
    have hm5 := mid_mem HM2.out HB3.out hk5
    have c0'' := hm5.self.c 0 rfl
    have hmap := hm5.map
    have HB5 := Lib.hid hb5
    have HK5 := Lib.hid hk5
    have HNB := Lib.hid hnb
    clear hb5 hg5 hk5 hm5 c0' c0 hnb
    go_wp2_with (at_mapUpdate; refine wpList_mapUpdate_own _ rfl _ _ _ 72 rfl 9 63 law9 Try.underlying72 relem B E.length (mapOf E) rfl hmap (by unfold maxLen; omega) _ _ (.string n) rfl rfl hkey (.lit (.int .i64 nb)) [] ?c1 ?_)
    case c1 => rfl
    intro w6 hown6 hgr6
    have hF2 : ∀ i, w2.heap.size ≤ i → F i := fun i hi => HF.out i (by have := HK.out.size; omega)
    obtain ⟨hm6, hk6⟩ := put_mem hF2 HM2.out HB3.out (n := n) (b := b) HO3.out HNB.out.symm HK5.out HB5.out hgr6 hown6
    have c1 := hm6.self.c 1 rfl
    have f1 := hm6.self.f 1
    have HM6 := Lib.hid hm6
    have HKK := Lib.hid (HK.out.trans hk6)
    have HU : Hid ((T : Int) + ((b.length : Int) - (sl : Int)) = ((tot (withL k (ins ⟨n, b, b.length, true⟩ k.L)).L : Nat) : Int)) := Lib.hid (by
      have h1 := HTR.out
      have h2 := HTT.out
      show _ = ((tot (ins ⟨n, b, b.length, true⟩ k.L) : Nat) : Int)
      omega)
    clear hmap hown6 hgr6 hF2 hm6 hk6 c0'' hh2
    have hb1 : (0 : Int) ≤ (T : Int) + ((b.length : Int) - (sl : Int)) := by rw [HU.out]; omega
    have hb2 : (T : Int) + ((b.length : Int) - (sl : Int)) ≤ 4194304 := by rw [HU.out]; have := HOK'.out.tot; omega
    go_wp2_with fail
    go_ret
    exact ⟨rfl, burn_at (k := withL k (ins ⟨n, b, b.length, true⟩ k.L)) (HM6.out.setUsed _) (insE HE.out _) HU.out HOK'.out, HKK.out.set _ _ (.inr HM.out.fd)⟩
/-- Replace, whatever there is. -/
theorem replace_any {w : World} {F : Nat → Prop} (hF : ∀ i, w.heap.size ≤ i → F i) {d : Nat} {k : Dk} (h : DiskAt w F d k) (n : List UInt8) (hn : n.length ≤ 1000000) (xv : Value) (b : List UInt8) (hx : Seen w w.heap.size xv b) (hb : b.length ≤ 10000000) :
    Calls Try.prog 22 #[.pointer (some ⟨d, 0, none⟩), .string (bs n), xv] w fun e w' => e = .returned (.int .i64 (replaceE k n b : Nat)) ∧ DiskAt w' F d (replaceD k n b) ∧ Kept F w w' := by
  have hD := h
  obtain ⟨B, E, hm, hE, hok⟩ := h
  unfold replaceE replaceD
  by_cases ha : mayHold k n (moreR k n b) = 0
  · rw [if_neg (by simpa using ha), if_neg (by simpa using ha)]
    rcases get_of hm hE hok n with ⟨h1, h2⟩ | ⟨x, h1, h2⟩
    · exact replace_none_yes hF hm hE hok n hn xv b hx hb h1 h2 _ rfl ha
    · exact replace_some_yes hF hm hE hok n hn xv b hx hb x h1 h2 _ rfl ha
  · rw [if_pos ha, if_pos ha]
    rcases get_of hm hE hok n with ⟨h1, h2⟩ | ⟨x, h1, h2⟩
    · refine (replace_none_no hF hm hE hok n hn xv b hx hb h1 h2 _ rfl ha).mono ?_
      rintro e w' ⟨rfl, rfl⟩
      exact ⟨rfl, hD, Kept.refl _ _⟩
    · refine (replace_some_no hF hm hE hok n hn xv b hx hb x h1 h2 _ rfl ha).mono ?_
      rintro e w' ⟨rfl, rfl⟩
      exact ⟨rfl, hD, Kept.refl _ _⟩
end Go.Proofs.Ytfkefppabjbbdaa
