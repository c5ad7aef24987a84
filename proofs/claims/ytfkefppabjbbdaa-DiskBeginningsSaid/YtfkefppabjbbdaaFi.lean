/- Calls of both: the program's disk, and the document's. -/
import Derived.Test.YtfkefppabjbbdaaFh
import Derived.Test.YtfkefppabjbbdaaLl
namespace Go.Proofs.Ytfkefppabjbbdaa
open Go.RowKit Go.Maps
set_option linter.unusedVariables false
/-- Where a block of the disk isn't: another type. -/
theorem DiskM.not {w : World} {F : Nat → Prop} {d B : Nat} {E : List Ent} {u fuse : Int} {down : Bool} (h : DiskM w F d B E u fuse down) {b : Nat} {cs : Array Value} {t : TypeId} {fr : Nat × Nat} (hb : w.heap[b]? = some (.cells cs t fr)) (h1 : t ≠ 74) (h2 : t ≠ 68) (h3 : t ≠ 5) : DiskM w (fun i => F i ∧ i ≠ b) d B E u fuse down := by
  refine ⟨h.self, h.map, fun e he => ⟨(h.each e he).cells, (h.each e he).row, ⟨(h.each e he).fb, ?_⟩, fun g hg => ⟨(h.each e he).fr g hg, ?_⟩⟩, h.apart, ⟨h.fd, ?_⟩, ⟨h.fB, ?_⟩, h.sorted⟩
  · rintro e1
    have := (h.each e he).cells
    unfold Blk at this
    rw [e1, hb] at this
    cases this
    exact h2 rfl
  · rintro rfl
    obtain ⟨cur, hh⟩ := own_blk (h.each e he).row hg
    rw [hb] at hh
    cases hh
    exact h3 rfl
  · rintro e1
    have := h.self
    unfold Blk at this
    rw [e1, hb] at this
    cases this
    exact h1 rfl
  · rintro rfl
    exact h.map.notCells hb rfl
theorem DiskAt.not {w : World} {F : Nat → Prop} {d : Nat} {k : Dk} (h : DiskAt w F d k) {b : Nat} {cs : Array Value} {t : TypeId} {fr : Nat × Nat} (hb : w.heap[b]? = some (.cells cs t fr)) (h1 : t ≠ 74) (h2 : t ≠ 68) (h3 : t ≠ 5) : DiskAt w (fun i => F i ∧ i ≠ b) d k := by
  obtain ⟨B, E, hm, hE, hok⟩ := h
  exact ⟨B, E, hm.not hb h1 h2 h3, hE, hok⟩
/-- What is in memory: the disk, the document's, the result's cells. -/
structure PlM (w wr : World) (b0 xb d : Nat) (kd kr : Dk) (v : Value) : Prop where
  dk : DiskAt wr (fun i => b0 ≤ i) d kd
  res : Blk wr b0 [.slice none 0 0, .int .i64 0, .bool false] 28
  ref : Blk wr xb [v, .int .i64 kr.fuse, .bool kr.down] 28
  row : Files wr 0 v kr.L
  bw : Below b0 w wr
  ne : b0 < xb
def Foot (b0 xb : Nat) (v : Value) (i : Nat) : Prop := (((b0 ≤ i ∧ i ≠ b0) ∧ i ≠ xb) ∧ v.ownBlock ≠ some i)
section
variable {w wr w' : World} {b0 xb d d' : Nat} {kd kd' kr kr' : Dk} {v v' : Value}
theorem PlM.below (h : PlM w wr b0 xb d kd kr v) (hb : Below wr.heap.size wr w') : PlM w w' b0 xb d kd kr v :=
  ⟨h.dk.below hb, h.res.below hb h.res.lt, h.ref.below hb h.ref.lt, h.row.below hb (Nat.le_refl _), h.bw.trans (hb.mono (by have := h.res.lt; omega)), h.ne⟩
theorem PlM.sep (h : PlM w wr b0 xb d kd kr v) : DiskAt wr (Foot b0 xb v) d kd := by
  have h1 := h.dk.not h.res (by decide) (by decide) (by decide)
  have h2 := h1.not h.ref (by decide) (by decide) (by decide)
  rcases h.row.2 with ⟨rfl, _⟩ | ⟨g, cap, cur, rfl, _, hh, _⟩
  · exact h2.mono (fun i hi _ => ⟨hi, by simp [Value.ownBlock]⟩)
  · exact (h2.not hh (by decide) (by decide) (by decide)).mono (fun i hi _ => ⟨hi.1, fun e => hi.2 (by cases e; rfl)⟩)
theorem PlM.free (h : PlM w wr b0 xb d kd kr v) : ∀ i, wr.heap.size ≤ i → Foot b0 xb v i := fun i hi => by
  have h1 := h.res.lt
  have h2 := h.ref.lt
  refine ⟨⟨⟨by omega, by omega⟩, by omega⟩, fun e => ?_⟩
  rcases h.row.2 with ⟨rfl, _⟩ | ⟨g, cap, cur, rfl, _, hh, _⟩
  · cases e
  · cases e
    have := lt_of_block hh
    simp only at hi
    omega
theorem PlM.turn (h : PlM w wr b0 xb d kd kr v) (hd : DiskAt w' (Foot b0 xb v) d kd') (hk : Kept (Foot b0 xb v) wr w') : PlM w w' b0 xb d kd' kr v :=
  ⟨hd.mono (fun i hi _ => hi.1.1.1), h.res.keptF hk (fun hf => hf.1.1.2 rfl), h.ref.keptF hk (fun hf => hf.1.2 rfl), h.row.keptF hk (fun g hg hf => hf.2 hg),
    h.bw.trans (hk.below (by have := h.res.lt; omega) (fun i hi => hi.1.1.1)), h.ne⟩
theorem PlM.sepc (h : PlM w wr b0 xb d kd kr v) {c : Nat} {cs : List Value} (hc : Blk wr c cs 41) : DiskAt wr (fun i => Foot b0 xb v i ∧ i ≠ c) d kd := h.sep.not hc (by decide) (by decide) (by decide)
theorem PlM.turnc (h : PlM w wr b0 xb d kd kr v) {c : Nat} (hd : DiskAt w' (fun i => Foot b0 xb v i ∧ i ≠ c) d kd') (hk : Kept (fun i => Foot b0 xb v i ∧ i ≠ c) wr w') : PlM w w' b0 xb d kd' kr v :=
  h.turn (hd.mono (fun i hi _ => hi.1)) (hk.mono (fun i hi => hi.1))
theorem PlM.other (h : PlM w wr b0 xb d kd kr v) (hb : Below wr.heap.size wr w') (hd : DiskAt w' (fun i => wr.heap.size ≤ i) d' kd') : PlM w w' b0 xb d' kd' kr v := by
  have h1 := h.below hb
  have hs := h.res.lt
  exact ⟨hd.mono (fun i hi _ => by show b0 ≤ i; have : wr.heap.size ≤ i := hi; omega), h1.res, h1.ref, h1.row, h1.bw, h1.ne⟩
/-- The document's disk is written. -/
theorem PlM.refset (h : PlM w wr b0 xb d kd kr v) {wq : World} (hb : Below wr.heap.size wr wq) (hr : Files wq 0 v' kr'.L) :
    PlM w (((wq.setCell ⟨xb, 0, none⟩ v').setCell ⟨xb, 1, none⟩ (.int .i64 kr'.fuse)).setCell ⟨xb, 2, none⟩ (.bool kr'.down)) b0 xb d kd kr' v' := by
  have h1 := h.below hb
  have hs := h1.ref.lt
  have hne := files_ne hr h1.ref (by decide)
  have hk : Kept (fun i => i = xb) wq (((wq.setCell ⟨xb, 0, none⟩ v').setCell ⟨xb, 1, none⟩ (.int .i64 kr'.fuse)).setCell ⟨xb, 2, none⟩ (.bool kr'.down)) := ((((Kept.refl (fun i => i = xb) wq).set ⟨xb, 0, none⟩ _ (.inr rfl)).set ⟨xb, 1, none⟩ _ (.inr rfl)).set ⟨xb, 2, none⟩ _ (.inr rfl))
  refine ⟨((h1.dk.not h1.ref (by decide) (by decide) (by decide)).far hk (fun i hi _ e => hi.2 e)).mono (fun i hi _ => hi.1), h1.res.keptF hk (fun e => by have := h.ne; omega), ((h1.ref.set 0 v').set 1 _).set 2 _, hr.keptF hk (fun g hg e => hne (by rw [hg, e])), h1.bw.trans (hk.below (by have := h1.res.lt; omega) (fun i hi => by rw [hi]; have := h.ne; omega)), h.ne⟩
end
def playStep (k : Dk) (o : Cl) : Dk := if o.kind = 1 ∨ o.kind = 2 ∨ o.kind = 3 ∨ o.kind = 4 then stD k o.kind o.name o.s else if o.kind = 5 then crashD k o.keep else if o.kind = 6 then armD k o.n else k
def playD (l : List Cl) : Dk := l.foldl playStep newD
theorem play_take {l : List Cl} {i : Nat} (hi : i < l.length) : playD (l.take (i + 1)) = playStep (playD (l.take i)) l[i] := by
  unfold playD
  rw [List.take_succ_eq_append_getElem hi, List.foldl_append]
  rfl
theorem stepr_any {w : World} {v : Value} {k : Dk} (h : Files w 0 v k.L) (hok : Ok k) (kind : Int) (hk : kind = 1 ∨ kind = 2 ∨ kind = 3 ∨ kind = 4) (n s : List UInt8) (hs : s.length ≤ 1000000) :
    Calls Try.prog 28 #[.agg #[v, .int .i64 k.fuse, .bool k.down], .int .i64 kind, .string (bs n), .string (bs s)] w (StepTo w k kind n s) := by
  by_cases ha : ask k n = 0
  · rcases hk with rfl | rfl | rfl | rfl
    · exact step_1 h hok n s hs ha
    · exact step_2 h hok n s hs ha
    · exact step_3 h hok n s hs ha
    · exact step_4 h hok n s hs ha
  · exact step_bad h kind n s ha
theorem ret_tc {fn : Func} {u p : Tmp} (h : fn.results = #[.tmp u, .cell p 28]) {tmps : Array Value} {w : World} {g : Nat} {a b c x : Value} (hp : tmps.getD p undef = .pointer (some ⟨g, 0, none⟩)) (hu : tmps.getD u undef = x) (hb : Blk w g [a, b, c] 28) :
    (results fn tmps).run Try.prog w = .ok (.tuple #[x, .agg #[a, b, c]]) w := by
  have e : (results fn tmps).run Try.prog w = ((asAddr (tmps.getD p undef)).run Try.prog w).andThen fun a w₁ => ((loadVar 28 a).run Try.prog w₁).andThen fun v w₂ => .ok (.tuple #[tmps.getD u undef, v]) w₂ := by
    simp only [results, h]
    simp [Sem.run_bind, Result.andThen]
  rw [e, hp, hu]
  simp only [asAddr, Sem.run_pure, Result.andThen_ok, run28 hb]
set_option maxRecDepth 100000 in
set_option maxHeartbeats 4000000 in
theorem play_any (v : Value) (l : List Cl) (w : World) (hv : Cls w w.heap.size v l) (hL : longL l = false) :
    Calls Try.prog 13 #[v] w fun e w' => ∃ d q n cap, e = .returned (.tuple #[.pointer (some ⟨d, 0, none⟩), .agg #[.slice q n cap, .int .i64 (playD l).fuse, .bool (playD l).down]]) ∧ DiskAt w' (fun i => w.heap.size ≤ i) d (playD l) ∧ Files w' 0 (.slice q n cap) (playD l).L ∧ Below w.heap.size w w' := by
  obtain ⟨q, cap, rfl, hle⟩ := hv.shape
  have HV := Lib.hid hv
  have HL := Lib.hid hL
  obtain ⟨N, hN⟩ : ∃ N, l.length = N := ⟨_, rfl⟩
  rw [hN] at HV hle
  rw [hN]
  have HN := Lib.hid hN
  obtain ⟨b0, hb0⟩ : ∃ b, w.heap.size = b := ⟨_, rfl⟩
  have HB0 := Lib.hid hb0
  have hnew := new_dk (w.alloc (.cells #[.slice none 0 0, .int .i64 0, .bool false] 28)) (fun i => b0 ≤ i) (fun i hi => by simp at hi; omega)
  have HNW := Lib.hid hnew
  clear hv hL hN hnew
  rw [hb0] at HV
  rw [hb0]
  go_enter Try.func13, Try.ntmps13
  go_wp2_with fail
  refine (HNW.out).mono ?_
  rintro e w1 ⟨d0, rfl, hd1, hb1⟩
  have hR1 := (Blk.at (w := w) hb0.symm [.slice none 0 0, .int .i64 0, .bool false] 28).below hb1 (by simp; omega)
  have hB1 : Below b0 w w1 := ((Below.refl _ w).alloc (by omega) _).trans (hb1.mono (by simp; omega))
  have HD1 := Lib.hid hd1
  have HR1 := Lib.hid hR1
  have HB1 := Lib.hid hB1
  clear hd1 hb1 hR1 hB1 hb0
  go_wp2_with fail
  refine (new_ref _).mono ?_
  rintro e w2 ⟨rfl, hb2⟩
  have hd2 := HD1.out.below hb2
  have hR2 := HR1.out.below hb2 HR1.out.lt
  have hB2 := HB1.out.trans (hb2.mono (by have := HR1.out.lt; omega))
  obtain ⟨xb, hxb⟩ : ∃ b, w2.heap.size = b := ⟨_, rfl⟩
  have hP : PlM w (w2.alloc (.cells #[.slice none 0 0, .int .i64 (-1), .bool false] 28)) b0 xb d0 newD newD (.slice none 0 0) :=
    ⟨hd2.alloc _, hR2.alloc _, Blk.at hxb.symm [_, _, _] 28, Files.nil _ _, hB2.alloc (by have := hR2.lt; omega) _, by have := hR2.lt; omega⟩
  have HP := Lib.hid hP
  clear hd2 hR2 hB2 hb2 hP
  go_upto_region 4 with fail
  have hP := HP.out
  clear HP hxb
  generalize w2.alloc (.cells #[.slice none 0 0, .int .i64 (-1), .bool false] 28) = w3 at hP ⊢
  have HP := Lib.hid hP
  clear hP
  go_wp2_with fail
  go_loopw [4, 17] (fun dv iv wr => ∃ (i d : Nat) (k : Dk) (qv : Option Addr) (nv cv : Nat), i ≤ N ∧ dv = .pointer (some ⟨d, 0, none⟩) ∧ iv = .int .i64 i ∧ Hid (k = playD (l.take i)) ∧ Hid (PlM w wr b0 xb d k k (.slice qv nv cv))) (fun _ iv _ => N - (intOf iv).toNat)
  case atStart => exact ⟨0, d0, newD, none, 0, 0, by omega, rfl, rfl, rfl, HP⟩
  case round =>
    obtain ⟨i, d, k, qv, nv, cv, hi, rfl, rfl, HPK, HP⟩ := hrel
    by_cases hlt : i < N
    · have hil : i < l.length := by rw [HN.out]; exact hlt
      obtain ⟨ad, rfl, hab, hmb, kv, c0, c1, c2, c3, c4, hk⟩ := (HV.out.below HP.out.bw).at i hil
      have hsm := longL_some HL.out hil
      obtain ⟨o, ho⟩ : ∃ o, l[i] = o := ⟨_, rfl⟩
      have HST : Hid (playD (l.take (i + 1)) = playStep k o) := Lib.hid (by rw [play_take hil, ← HPK.out, ho])
      rw [ho] at c0 c1 c2 c3 hk hsm hmb
      obtain ⟨kind, m, nm, s, keep⟩ := o
      simp only at c0 c1 c2 c3 hk hsm hmb
      obtain ⟨qk, ck, rfl⟩ := hk.len
      obtain ⟨ks, hks⟩ : ∃ ks, keep.length = ks := ⟨_, rfl⟩
      rw [hks] at hk c4 hsm
      go_upto_region 7 with fail
      obtain ⟨c, hc⟩ : ∃ c, wr.heap.size = c := ⟨_, rfl⟩
      have hPA := HP.out.below ((Below.refl _ wr).alloc (Nat.le_refl _) (.cells #[.int .i64 kind, .int .i64 m, .string (bs nm), .string (bs s), .slice qk ks ck] 41))
      have hCA : Blk (wr.alloc (.cells #[.int .i64 kind, .int .i64 m, .string (bs nm), .string (bs s), .slice qk ks ck] 41)) c [.int .i64 kind, .int .i64 m, .string (bs nm), .string (bs s), .slice qk ks ck] 41 := Blk.at hc.symm [_, _, _, _, _] 41
      have hKA := hk.below ((Below.refl _ wr).alloc (Nat.le_refl _) (.cells #[.int .i64 kind, .int .i64 m, .string (bs nm), .string (bs s), .slice qk ks ck] 41))
      have hcx : b0 < c ∧ xb < c := by have h1 := HP.out.res.lt; have h2 := HP.out.ref.lt; omega
      have HSM := Lib.hid hsm
      have HMB := Lib.hid hmb
      have HKS := Lib.hid hks
      rw [hc]
      clear HP c0 c1 c2 c3 c4 hk ho hil hab hc hsm hmb hks
      generalize wr.alloc (.cells #[.int .i64 kind, .int .i64 m, .string (bs nm), .string (bs s), .slice qk ks ck] 41) = wa at hPA hCA hKA ⊢
      have HPA := Lib.hid hPA
      have HCA := Lib.hid hCA
      have HKA := Lib.hid hKA
      have HCX := Lib.hid hcx
      have c0 := hCA.c 0 rfl
      have c1 := hCA.c 1 rfl
      have c2 := hCA.c 2 rfl
      have c3 := hCA.c 3 rfl
      have c4 := hCA.c 4 rfl
      have x0 := hPA.ref.c 0 rfl
      have x1 := hPA.ref.c 1 rfl
      have x2 := hPA.ref.c 2 rfl
      have xf0 := hPA.ref.f 0
      have xf1 := hPA.ref.f 1
      have xf2 := hPA.ref.f 2
      clear hPA hCA hKA hcx
      by_cases h1 : kind = 1
      · subst h1
        have hst := stepr_any HPA.out.row HPA.out.dk.ok 1 (by decide) nm s (by have := HSM.out; omega)
        have HST1 := Lib.hid hst
        have HPS : Hid (playStep k ⟨1, m, nm, s, keep⟩ = stD k 1 nm s) := Lib.hid (by unfold playStep; rw [if_pos (.inl rfl)])
        clear hst
        go_wp2_with fail
        refine (HST1.out).mono ?_
        rintro e w4 ⟨v4, rfl, hr4, hb4⟩
        obtain ⟨k2, hk2⟩ : ∃ x, stD k 1 nm s = x := ⟨_, rfl⟩
        obtain ⟨E, hE⟩ : ∃ x, stE k 1 nm s = x := ⟨_, rfl⟩
        rw [hk2] at hr4
        rw [hk2, hE]
        obtain ⟨q4, c4', rfl⟩ := hr4.len
        obtain ⟨n4, hn4⟩ : ∃ n, k2.L.length = n := ⟨_, rfl⟩
        rw [hn4] at hr4
        rw [hn4]
        have HB4 := Lib.hid hb4
        have HR4 := Lib.hid hr4
        have hP4 := HPA.out.below hb4
        have hC4 := HCA.out.below hb4 HCA.out.lt
        have HC4 := Lib.hid hC4
        have HK2 := Lib.hid hk2
        have HEE := Lib.hid hE
        clear c0 c1 c2 c3 c4 x0 x1 x2 xf0 xf1 xf2
        have x0 := hP4.ref.c 0 rfl
        have x1 := hP4.ref.c 1 rfl
        have x2 := hP4.ref.c 2 rfl
        have xf0 := hP4.ref.f 0
        have xf1 := hP4.ref.f 1
        have xf2 := hP4.ref.f 2
        have c0 := hC4.c 0 rfl
        have c1 := hC4.c 1 rfl
        have c2 := hC4.c 2 rfl
        have c3 := hC4.c 3 rfl
        have c4 := hC4.c 4 rfl
        clear hr4 hb4 hk2 hE hn4 hP4 hC4 HST1
        go_upto_region 13 with fail
        obtain ⟨z, hz⟩ : ∃ z, w4.heap.size = z := ⟨_, rfl⟩
        have hB5 := HB4.out.trans ((Below.refl _ w4).alloc HB4.out.size (.cells #[.slice q4 n4 c4', .int .i64 k2.fuse, .bool k2.down] 28))
        have hZ5 : Blk (w4.alloc (.cells #[.slice q4 n4 c4', .int .i64 k2.fuse, .bool k2.down] 28)) z [.slice q4 n4 c4', .int .i64 k2.fuse, .bool k2.down] 28 := Blk.at hz.symm [_, _, _] 28
        have hR5 := HR4.out.alloc (.cells #[.slice q4 n4 c4', .int .i64 k2.fuse, .bool k2.down] 28)
        rw [hz]
        clear c0 c1 c2 c3 c4 x0 x1 x2 xf0 xf1 xf2 HB4 HR4 HC4 hz
        generalize w4.alloc (.cells #[.slice q4 n4 c4', .int .i64 k2.fuse, .bool k2.down] 28) = w5 at hB5 hZ5 hR5 ⊢
        have hP5 := HPA.out.below hB5
        have hC5 := HCA.out.below hB5 HCA.out.lt
        have x0 := hP5.ref.c 0 rfl
        have x1 := hP5.ref.c 1 rfl
        have x2 := hP5.ref.c 2 rfl
        have xf0 := hP5.ref.f 0
        have xf1 := hP5.ref.f 1
        have xf2 := hP5.ref.f 2
        have c0 := hC5.c 0 rfl
        have c1 := hC5.c 1 rfl
        have c2 := hC5.c 2 rfl
        have c3 := hC5.c 3 rfl
        have c4 := hC5.c 4 rfl
        have y0 := hZ5.c 0 rfl
        have y1 := hZ5.c 1 rfl
        have y2 := hZ5.c 2 rfl
        have hP6 := HPA.out.refset (kr' := k2) hB5 hR5
        have hC6 := ((hC5.other (a := ⟨xb, 0, none⟩) (by show c ≠ xb; have := HCX.out; omega) (.slice q4 n4 c4')).other (a := ⟨xb, 1, none⟩) (by show c ≠ xb; have := HCX.out; omega) (.int .i64 k2.fuse)).other (a := ⟨xb, 2, none⟩) (by show c ≠ xb; have := HCX.out; omega) (.bool k2.down)
        have HP6 := Lib.hid hP6
        have HC6 := Lib.hid hC6
        clear hB5 hZ5 hR5 hP5 hC5 hP6 hC6
        go_upto_region 14 with fail
        have hP6 := HP6.out
        have hC6 := HC6.out
        clear c0 c1 c2 c3 c4 x0 x1 x2 xf0 xf1 xf2 y0 y1 y2 HP6 HC6
        generalize ((w5.setCell ⟨xb, 0, none⟩ (.slice q4 n4 c4')).setCell ⟨xb, 1, none⟩ (.int .i64 k2.fuse)).setCell ⟨xb, 2, none⟩ (.bool k2.down) = w6 at hP6 hC6 ⊢
        have x0 := hP6.ref.c 0 rfl
        have x1 := hP6.ref.c 1 rfl
        have x2 := hP6.ref.c 2 rfl
        have xf0 := hP6.ref.f 0
        have xf1 := hP6.ref.f 1
        have xf2 := hP6.ref.f 2
        have c0 := hC6.c 0 rfl
        have c1 := hC6.c 1 rfl
        have c2 := hC6.c 2 rfl
        have c3 := hC6.c 3 rfl
        have c4 := hC6.c 4 rfl
        have hdo := do_any hP6.free hP6.sep 1 m nm s (by have := HSM.out; omega) (by have := HSM.out; omega) qk ks ck
        rw [HEE.out, HK2.out] at hdo
        have HDO := Lib.hid hdo
        have HP6 := Lib.hid hP6
        clear hP6 hC6 hdo
        go_wp2_with fail
        refine (HDO.out).mono ?_
        rintro e w7 ⟨rfl, hd7, hk7⟩
        have hX := HP6.out.turn hd7 hk7
        clear c0 c1 c2 c3 c4 x0 x1 x2 xf0 xf1 xf2 HP6 hd7 hk7 HDO
        have x0 := hX.ref.c 0 rfl
        have x1 := hX.ref.c 1 rfl
        have x2 := hX.ref.c 2 rfl
        have xf0 := hX.ref.f 0
        have xf1 := hX.ref.f 1
        have xf2 := hX.ref.f 2
        have HX := Lib.hid hX
        have HE : Hid (k2 = playD (l.take (i + 1))) := Lib.hid (by rw [HST.out, HPS.out, HK2.out])
        clear hX
        go_wp2_with fail
        refine (unlike_any HX.out.dk HX.out.row).mono ?_
        rintro e wu ⟨rfl, hdu, hbu⟩
        have HU := Lib.hid (HX.out.below hbu)
        clear hdu hbu x0 x1 x2 xf0 xf1 xf2
        go_wp2_with fail
        refine ⟨⟨i + 1, d, k2, q4, n4, c4', by omega, rfl, by simp, HE, HU⟩, ?_⟩
        simp only [intOf]
        omega
      by_cases h2 : kind = 2
      · subst h2
        clear h1
        have hst := stepr_any HPA.out.row HPA.out.dk.ok 2 (by decide) nm s (by have := HSM.out; omega)
        have HST1 := Lib.hid hst
        have HPS : Hid (playStep k ⟨2, m, nm, s, keep⟩ = stD k 2 nm s) := Lib.hid (by unfold playStep; rw [if_pos (.inr (.inl rfl))])
        clear hst
        go_wp2_with fail
        refine (HST1.out).mono ?_
        rintro e w4 ⟨v4, rfl, hr4, hb4⟩
        obtain ⟨k2, hk2⟩ : ∃ x, stD k 2 nm s = x := ⟨_, rfl⟩
        obtain ⟨E, hE⟩ : ∃ x, stE k 2 nm s = x := ⟨_, rfl⟩
        rw [hk2] at hr4
        rw [hk2, hE]
        obtain ⟨q4, c4', rfl⟩ := hr4.len
        obtain ⟨n4, hn4⟩ : ∃ n, k2.L.length = n := ⟨_, rfl⟩
        rw [hn4] at hr4
        rw [hn4]
        have HB4 := Lib.hid hb4
        have HR4 := Lib.hid hr4
        have hP4 := HPA.out.below hb4
        have hC4 := HCA.out.below hb4 HCA.out.lt
        have HC4 := Lib.hid hC4
        have HK2 := Lib.hid hk2
        have HEE := Lib.hid hE
        clear c0 c1 c2 c3 c4 x0 x1 x2 xf0 xf1 xf2
        have x0 := hP4.ref.c 0 rfl
        have x1 := hP4.ref.c 1 rfl
        have x2 := hP4.ref.c 2 rfl
        have xf0 := hP4.ref.f 0
        have xf1 := hP4.ref.f 1
        have xf2 := hP4.ref.f 2
        have c0 := hC4.c 0 rfl
        have c1 := hC4.c 1 rfl
        have c2 := hC4.c 2 rfl
        have c3 := hC4.c 3 rfl
        have c4 := hC4.c 4 rfl
        clear hr4 hb4 hk2 hE hn4 hP4 hC4 HST1
        go_upto_region 13 with fail
        obtain ⟨z, hz⟩ : ∃ z, w4.heap.size = z := ⟨_, rfl⟩
        have hB5 := HB4.out.trans ((Below.refl _ w4).alloc HB4.out.size (.cells #[.slice q4 n4 c4', .int .i64 k2.fuse, .bool k2.down] 28))
        have hZ5 : Blk (w4.alloc (.cells #[.slice q4 n4 c4', .int .i64 k2.fuse, .bool k2.down] 28)) z [.slice q4 n4 c4', .int .i64 k2.fuse, .bool k2.down] 28 := Blk.at hz.symm [_, _, _] 28
        have hR5 := HR4.out.alloc (.cells #[.slice q4 n4 c4', .int .i64 k2.fuse, .bool k2.down] 28)
        rw [hz]
        clear c0 c1 c2 c3 c4 x0 x1 x2 xf0 xf1 xf2 HB4 HR4 HC4 hz
        generalize w4.alloc (.cells #[.slice q4 n4 c4', .int .i64 k2.fuse, .bool k2.down] 28) = w5 at hB5 hZ5 hR5 ⊢
        have hP5 := HPA.out.below hB5
        have hC5 := HCA.out.below hB5 HCA.out.lt
        have x0 := hP5.ref.c 0 rfl
        have x1 := hP5.ref.c 1 rfl
        have x2 := hP5.ref.c 2 rfl
        have xf0 := hP5.ref.f 0
        have xf1 := hP5.ref.f 1
        have xf2 := hP5.ref.f 2
        have c0 := hC5.c 0 rfl
        have c1 := hC5.c 1 rfl
        have c2 := hC5.c 2 rfl
        have c3 := hC5.c 3 rfl
        have c4 := hC5.c 4 rfl
        have y0 := hZ5.c 0 rfl
        have y1 := hZ5.c 1 rfl
        have y2 := hZ5.c 2 rfl
        have hP6 := HPA.out.refset (kr' := k2) hB5 hR5
        have hC6 := ((hC5.other (a := ⟨xb, 0, none⟩) (by show c ≠ xb; have := HCX.out; omega) (.slice q4 n4 c4')).other (a := ⟨xb, 1, none⟩) (by show c ≠ xb; have := HCX.out; omega) (.int .i64 k2.fuse)).other (a := ⟨xb, 2, none⟩) (by show c ≠ xb; have := HCX.out; omega) (.bool k2.down)
        have HP6 := Lib.hid hP6
        have HC6 := Lib.hid hC6
        clear hB5 hZ5 hR5 hP5 hC5 hP6 hC6
        go_upto_region 14 with fail
        have hP6 := HP6.out
        have hC6 := HC6.out
        clear c0 c1 c2 c3 c4 x0 x1 x2 xf0 xf1 xf2 y0 y1 y2 HP6 HC6
        generalize ((w5.setCell ⟨xb, 0, none⟩ (.slice q4 n4 c4')).setCell ⟨xb, 1, none⟩ (.int .i64 k2.fuse)).setCell ⟨xb, 2, none⟩ (.bool k2.down) = w6 at hP6 hC6 ⊢
        have x0 := hP6.ref.c 0 rfl
        have x1 := hP6.ref.c 1 rfl
        have x2 := hP6.ref.c 2 rfl
        have xf0 := hP6.ref.f 0
        have xf1 := hP6.ref.f 1
        have xf2 := hP6.ref.f 2
        have c0 := hC6.c 0 rfl
        have c1 := hC6.c 1 rfl
        have c2 := hC6.c 2 rfl
        have c3 := hC6.c 3 rfl
        have c4 := hC6.c 4 rfl
        have hdo := do_any hP6.free hP6.sep 2 m nm s (by have := HSM.out; omega) (by have := HSM.out; omega) qk ks ck
        rw [HEE.out, HK2.out] at hdo
        have HDO := Lib.hid hdo
        have HP6 := Lib.hid hP6
        clear hP6 hC6 hdo
        go_wp2_with fail
        refine (HDO.out).mono ?_
        rintro e w7 ⟨rfl, hd7, hk7⟩
        have hX := HP6.out.turn hd7 hk7
        clear c0 c1 c2 c3 c4 x0 x1 x2 xf0 xf1 xf2 HP6 hd7 hk7 HDO
        have x0 := hX.ref.c 0 rfl
        have x1 := hX.ref.c 1 rfl
        have x2 := hX.ref.c 2 rfl
        have xf0 := hX.ref.f 0
        have xf1 := hX.ref.f 1
        have xf2 := hX.ref.f 2
        have HX := Lib.hid hX
        have HE : Hid (k2 = playD (l.take (i + 1))) := Lib.hid (by rw [HST.out, HPS.out, HK2.out])
        clear hX
        go_wp2_with fail
        refine (unlike_any HX.out.dk HX.out.row).mono ?_
        rintro e wu ⟨rfl, hdu, hbu⟩
        have HU := Lib.hid (HX.out.below hbu)
        clear hdu hbu x0 x1 x2 xf0 xf1 xf2
        go_wp2_with fail
        refine ⟨⟨i + 1, d, k2, q4, n4, c4', by omega, rfl, by simp, HE, HU⟩, ?_⟩
        simp only [intOf]
        omega
      by_cases h3 : kind = 3
      · subst h3
        clear h1 h2
        have hst := stepr_any HPA.out.row HPA.out.dk.ok 3 (by decide) nm s (by have := HSM.out; omega)
        have HST1 := Lib.hid hst
        have HPS : Hid (playStep k ⟨3, m, nm, s, keep⟩ = stD k 3 nm s) := Lib.hid (by unfold playStep; rw [if_pos (.inr (.inr (.inl rfl)))])
        clear hst
        go_wp2_with fail
        refine (HST1.out).mono ?_
        rintro e w4 ⟨v4, rfl, hr4, hb4⟩
        obtain ⟨k2, hk2⟩ : ∃ x, stD k 3 nm s = x := ⟨_, rfl⟩
        obtain ⟨E, hE⟩ : ∃ x, stE k 3 nm s = x := ⟨_, rfl⟩
        rw [hk2] at hr4
        rw [hk2, hE]
        obtain ⟨q4, c4', rfl⟩ := hr4.len
        obtain ⟨n4, hn4⟩ : ∃ n, k2.L.length = n := ⟨_, rfl⟩
        rw [hn4] at hr4
        rw [hn4]
        have HB4 := Lib.hid hb4
        have HR4 := Lib.hid hr4
        have hP4 := HPA.out.below hb4
        have hC4 := HCA.out.below hb4 HCA.out.lt
        have HC4 := Lib.hid hC4
        have HK2 := Lib.hid hk2
        have HEE := Lib.hid hE
        clear c0 c1 c2 c3 c4 x0 x1 x2 xf0 xf1 xf2
        have x0 := hP4.ref.c 0 rfl
        have x1 := hP4.ref.c 1 rfl
        have x2 := hP4.ref.c 2 rfl
        have xf0 := hP4.ref.f 0
        have xf1 := hP4.ref.f 1
        have xf2 := hP4.ref.f 2
        have c0 := hC4.c 0 rfl
        have c1 := hC4.c 1 rfl
        have c2 := hC4.c 2 rfl
        have c3 := hC4.c 3 rfl
        have c4 := hC4.c 4 rfl
        clear hr4 hb4 hk2 hE hn4 hP4 hC4 HST1
        go_upto_region 13 with fail
        obtain ⟨z, hz⟩ : ∃ z, w4.heap.size = z := ⟨_, rfl⟩
        have hB5 := HB4.out.trans ((Below.refl _ w4).alloc HB4.out.size (.cells #[.slice q4 n4 c4', .int .i64 k2.fuse, .bool k2.down] 28))
        have hZ5 : Blk (w4.alloc (.cells #[.slice q4 n4 c4', .int .i64 k2.fuse, .bool k2.down] 28)) z [.slice q4 n4 c4', .int .i64 k2.fuse, .bool k2.down] 28 := Blk.at hz.symm [_, _, _] 28
        have hR5 := HR4.out.alloc (.cells #[.slice q4 n4 c4', .int .i64 k2.fuse, .bool k2.down] 28)
        rw [hz]
        clear c0 c1 c2 c3 c4 x0 x1 x2 xf0 xf1 xf2 HB4 HR4 HC4 hz
        generalize w4.alloc (.cells #[.slice q4 n4 c4', .int .i64 k2.fuse, .bool k2.down] 28) = w5 at hB5 hZ5 hR5 ⊢
        have hP5 := HPA.out.below hB5
        have hC5 := HCA.out.below hB5 HCA.out.lt
        have x0 := hP5.ref.c 0 rfl
        have x1 := hP5.ref.c 1 rfl
        have x2 := hP5.ref.c 2 rfl
        have xf0 := hP5.ref.f 0
        have xf1 := hP5.ref.f 1
        have xf2 := hP5.ref.f 2
        have c0 := hC5.c 0 rfl
        have c1 := hC5.c 1 rfl
        have c2 := hC5.c 2 rfl
        have c3 := hC5.c 3 rfl
        have c4 := hC5.c 4 rfl
        have y0 := hZ5.c 0 rfl
        have y1 := hZ5.c 1 rfl
        have y2 := hZ5.c 2 rfl
        have hP6 := HPA.out.refset (kr' := k2) hB5 hR5
        have hC6 := ((hC5.other (a := ⟨xb, 0, none⟩) (by show c ≠ xb; have := HCX.out; omega) (.slice q4 n4 c4')).other (a := ⟨xb, 1, none⟩) (by show c ≠ xb; have := HCX.out; omega) (.int .i64 k2.fuse)).other (a := ⟨xb, 2, none⟩) (by show c ≠ xb; have := HCX.out; omega) (.bool k2.down)
        have HP6 := Lib.hid hP6
        have HC6 := Lib.hid hC6
        clear hB5 hZ5 hR5 hP5 hC5 hP6 hC6
        go_upto_region 14 with fail
        have hP6 := HP6.out
        have hC6 := HC6.out
        clear c0 c1 c2 c3 c4 x0 x1 x2 xf0 xf1 xf2 y0 y1 y2 HP6 HC6
        generalize ((w5.setCell ⟨xb, 0, none⟩ (.slice q4 n4 c4')).setCell ⟨xb, 1, none⟩ (.int .i64 k2.fuse)).setCell ⟨xb, 2, none⟩ (.bool k2.down) = w6 at hP6 hC6 ⊢
        have x0 := hP6.ref.c 0 rfl
        have x1 := hP6.ref.c 1 rfl
        have x2 := hP6.ref.c 2 rfl
        have xf0 := hP6.ref.f 0
        have xf1 := hP6.ref.f 1
        have xf2 := hP6.ref.f 2
        have c0 := hC6.c 0 rfl
        have c1 := hC6.c 1 rfl
        have c2 := hC6.c 2 rfl
        have c3 := hC6.c 3 rfl
        have c4 := hC6.c 4 rfl
        have hdo := do_any hP6.free hP6.sep 3 m nm s (by have := HSM.out; omega) (by have := HSM.out; omega) qk ks ck
        rw [HEE.out, HK2.out] at hdo
        have HDO := Lib.hid hdo
        have HP6 := Lib.hid hP6
        clear hP6 hC6 hdo
        go_wp2_with fail
        refine (HDO.out).mono ?_
        rintro e w7 ⟨rfl, hd7, hk7⟩
        have hX := HP6.out.turn hd7 hk7
        clear c0 c1 c2 c3 c4 x0 x1 x2 xf0 xf1 xf2 HP6 hd7 hk7 HDO
        have x0 := hX.ref.c 0 rfl
        have x1 := hX.ref.c 1 rfl
        have x2 := hX.ref.c 2 rfl
        have xf0 := hX.ref.f 0
        have xf1 := hX.ref.f 1
        have xf2 := hX.ref.f 2
        have HX := Lib.hid hX
        have HE : Hid (k2 = playD (l.take (i + 1))) := Lib.hid (by rw [HST.out, HPS.out, HK2.out])
        clear hX
        go_wp2_with fail
        refine (unlike_any HX.out.dk HX.out.row).mono ?_
        rintro e wu ⟨rfl, hdu, hbu⟩
        have HU := Lib.hid (HX.out.below hbu)
        clear hdu hbu x0 x1 x2 xf0 xf1 xf2
        go_wp2_with fail
        refine ⟨⟨i + 1, d, k2, q4, n4, c4', by omega, rfl, by simp, HE, HU⟩, ?_⟩
        simp only [intOf]
        omega
      by_cases h4 : kind = 4
      · subst h4
        clear h1 h2 h3
        have hst := stepr_any HPA.out.row HPA.out.dk.ok 4 (by decide) nm s (by have := HSM.out; omega)
        have HST1 := Lib.hid hst
        have HPS : Hid (playStep k ⟨4, m, nm, s, keep⟩ = stD k 4 nm s) := Lib.hid (by unfold playStep; rw [if_pos (.inr (.inr (.inr rfl)))])
        clear hst
        go_wp2_with fail
        refine (HST1.out).mono ?_
        rintro e w4 ⟨v4, rfl, hr4, hb4⟩
        obtain ⟨k2, hk2⟩ : ∃ x, stD k 4 nm s = x := ⟨_, rfl⟩
        obtain ⟨E, hE⟩ : ∃ x, stE k 4 nm s = x := ⟨_, rfl⟩
        rw [hk2] at hr4
        rw [hk2, hE]
        obtain ⟨q4, c4', rfl⟩ := hr4.len
        obtain ⟨n4, hn4⟩ : ∃ n, k2.L.length = n := ⟨_, rfl⟩
        rw [hn4] at hr4
        rw [hn4]
        have HB4 := Lib.hid hb4
        have HR4 := Lib.hid hr4
        have hP4 := HPA.out.below hb4
        have hC4 := HCA.out.below hb4 HCA.out.lt
        have HC4 := Lib.hid hC4
        have HK2 := Lib.hid hk2
        have HEE := Lib.hid hE
        clear c0 c1 c2 c3 c4 x0 x1 x2 xf0 xf1 xf2
        have x0 := hP4.ref.c 0 rfl
        have x1 := hP4.ref.c 1 rfl
        have x2 := hP4.ref.c 2 rfl
        have xf0 := hP4.ref.f 0
        have xf1 := hP4.ref.f 1
        have xf2 := hP4.ref.f 2
        have c0 := hC4.c 0 rfl
        have c1 := hC4.c 1 rfl
        have c2 := hC4.c 2 rfl
        have c3 := hC4.c 3 rfl
        have c4 := hC4.c 4 rfl
        clear hr4 hb4 hk2 hE hn4 hP4 hC4 HST1
        go_upto_region 13 with fail
        obtain ⟨z, hz⟩ : ∃ z, w4.heap.size = z := ⟨_, rfl⟩
        have hB5 := HB4.out.trans ((Below.refl _ w4).alloc HB4.out.size (.cells #[.slice q4 n4 c4', .int .i64 k2.fuse, .bool k2.down] 28))
        have hZ5 : Blk (w4.alloc (.cells #[.slice q4 n4 c4', .int .i64 k2.fuse, .bool k2.down] 28)) z [.slice q4 n4 c4', .int .i64 k2.fuse, .bool k2.down] 28 := Blk.at hz.symm [_, _, _] 28
        have hR5 := HR4.out.alloc (.cells #[.slice q4 n4 c4', .int .i64 k2.fuse, .bool k2.down] 28)
        rw [hz]
        clear c0 c1 c2 c3 c4 x0 x1 x2 xf0 xf1 xf2 HB4 HR4 HC4 hz
        generalize w4.alloc (.cells #[.slice q4 n4 c4', .int .i64 k2.fuse, .bool k2.down] 28) = w5 at hB5 hZ5 hR5 ⊢
        have hP5 := HPA.out.below hB5
        have hC5 := HCA.out.below hB5 HCA.out.lt
        have x0 := hP5.ref.c 0 rfl
        have x1 := hP5.ref.c 1 rfl
        have x2 := hP5.ref.c 2 rfl
        have xf0 := hP5.ref.f 0
        have xf1 := hP5.ref.f 1
        have xf2 := hP5.ref.f 2
        have c0 := hC5.c 0 rfl
        have c1 := hC5.c 1 rfl
        have c2 := hC5.c 2 rfl
        have c3 := hC5.c 3 rfl
        have c4 := hC5.c 4 rfl
        have y0 := hZ5.c 0 rfl
        have y1 := hZ5.c 1 rfl
        have y2 := hZ5.c 2 rfl
        have hP6 := HPA.out.refset (kr' := k2) hB5 hR5
        have hC6 := ((hC5.other (a := ⟨xb, 0, none⟩) (by show c ≠ xb; have := HCX.out; omega) (.slice q4 n4 c4')).other (a := ⟨xb, 1, none⟩) (by show c ≠ xb; have := HCX.out; omega) (.int .i64 k2.fuse)).other (a := ⟨xb, 2, none⟩) (by show c ≠ xb; have := HCX.out; omega) (.bool k2.down)
        have HP6 := Lib.hid hP6
        have HC6 := Lib.hid hC6
        clear hB5 hZ5 hR5 hP5 hC5 hP6 hC6
        go_upto_region 14 with fail
        have hP6 := HP6.out
        have hC6 := HC6.out
        clear c0 c1 c2 c3 c4 x0 x1 x2 xf0 xf1 xf2 y0 y1 y2 HP6 HC6
        generalize ((w5.setCell ⟨xb, 0, none⟩ (.slice q4 n4 c4')).setCell ⟨xb, 1, none⟩ (.int .i64 k2.fuse)).setCell ⟨xb, 2, none⟩ (.bool k2.down) = w6 at hP6 hC6 ⊢
        have x0 := hP6.ref.c 0 rfl
        have x1 := hP6.ref.c 1 rfl
        have x2 := hP6.ref.c 2 rfl
        have xf0 := hP6.ref.f 0
        have xf1 := hP6.ref.f 1
        have xf2 := hP6.ref.f 2
        have c0 := hC6.c 0 rfl
        have c1 := hC6.c 1 rfl
        have c2 := hC6.c 2 rfl
        have c3 := hC6.c 3 rfl
        have c4 := hC6.c 4 rfl
        have hdo := do_any hP6.free hP6.sep 4 m nm s (by have := HSM.out; omega) (by have := HSM.out; omega) qk ks ck
        rw [HEE.out, HK2.out] at hdo
        have HDO := Lib.hid hdo
        have HP6 := Lib.hid hP6
        clear hP6 hC6 hdo
        go_wp2_with fail
        refine (HDO.out).mono ?_
        rintro e w7 ⟨rfl, hd7, hk7⟩
        have hX := HP6.out.turn hd7 hk7
        clear c0 c1 c2 c3 c4 x0 x1 x2 xf0 xf1 xf2 HP6 hd7 hk7 HDO
        have x0 := hX.ref.c 0 rfl
        have x1 := hX.ref.c 1 rfl
        have x2 := hX.ref.c 2 rfl
        have xf0 := hX.ref.f 0
        have xf1 := hX.ref.f 1
        have xf2 := hX.ref.f 2
        have HX := Lib.hid hX
        have HE : Hid (k2 = playD (l.take (i + 1))) := Lib.hid (by rw [HST.out, HPS.out, HK2.out])
        clear hX
        go_wp2_with fail
        refine (unlike_any HX.out.dk HX.out.row).mono ?_
        rintro e wu ⟨rfl, hdu, hbu⟩
        have HU := Lib.hid (HX.out.below hbu)
        clear hdu hbu x0 x1 x2 xf0 xf1 xf2
        go_wp2_with fail
        refine ⟨⟨i + 1, d, k2, q4, n4, c4', by omega, rfl, by simp, HE, HU⟩, ?_⟩
        simp only [intOf]
        omega
      by_cases h5 : kind = 5
      · subst h5
        clear h1 h2 h3 h4
        have hcr := crash_any (HPA.out.sepc HCA.out) (.slice qk ks ck) keep ((HKA.out.mono (fun i hi _ hf => by have h1 := hf.1.1.1.1; omega))) (by have := HKS.out; have := HSM.out; omega)
        have HCR := Lib.hid hcr
        have HPS : Hid (playStep k ⟨5, m, nm, s, keep⟩ = crashD k keep) := Lib.hid rfl
        clear hcr
        go_wp2_with fail
        refine (HCR.out).mono ?_
        rintro e w4 ⟨rfl, hd4, hk4⟩
        have hP4 := HPA.out.turnc hd4 hk4
        have hC4 := HCA.out.keptF hk4 (fun hf => hf.2 rfl)
        have hK4 := HKA.out.keptF hk4 (fun i hi hf => by have h1 := hf.1.1.1.1; omega)
        have hOK := HPA.out.dk.ok
        have hrc := crash_ref hP4.row (by have := hOK.len; omega) (fun f hf => ⟨hOK.lasts f hf, by have h1 := tot_mem hf; have h2 := hOK.tot; omega⟩) k.fuse k.down (.slice qk ks ck) keep hK4 (by have := HKS.out; have := HSM.out; omega)
        have HRC := Lib.hid hrc
        have HP4 := Lib.hid hP4
        clear c0 c1 c2 c3 c4 x0 x1 x2 xf0 xf1 xf2 hd4 hk4 hK4 hOK hrc HCR
        have x0 := hP4.ref.c 0 rfl
        have x1 := hP4.ref.c 1 rfl
        have x2 := hP4.ref.c 2 rfl
        have xf0 := hP4.ref.f 0
        have xf1 := hP4.ref.f 1
        have xf2 := hP4.ref.f 2
        have c0 := hC4.c 0 rfl
        have c1 := hC4.c 1 rfl
        have c2 := hC4.c 2 rfl
        have c3 := hC4.c 3 rfl
        have c4 := hC4.c 4 rfl
        clear hP4 hC4
        go_wp2_with fail
        refine (HRC.out).mono ?_
        rintro e w5 ⟨v5, rfl, hr5, hb5⟩
        obtain ⟨q5, c5', rfl⟩ := hr5.len
        obtain ⟨n5, hn5⟩ : ∃ n, (crashL k.L keep).length = n := ⟨_, rfl⟩
        rw [hn5] at hr5
        rw [hn5]
        have hP5 := HP4.out.below hb5
        clear c0 c1 c2 c3 c4 x0 x1 x2 xf0 xf1 xf2
        have x0 := hP5.ref.c 0 rfl
        have x1 := hP5.ref.c 1 rfl
        have x2 := hP5.ref.c 2 rfl
        have xf0 := hP5.ref.f 0
        have xf1 := hP5.ref.f 1
        have xf2 := hP5.ref.f 2
        have hP6 : PlM w (((w5.setCell ⟨xb, 0, none⟩ (.slice q5 n5 c5')).setCell ⟨xb, 1, none⟩ (.int .i64 (-1))).setCell ⟨xb, 2, none⟩ (.bool false)) b0 xb d (crashD k keep) (crashD k keep) (.slice q5 n5 c5') := HP4.out.refset (kr' := crashD k keep) hb5 (hr5.mono (Nat.zero_le _))
        have HP6 := Lib.hid hP6
        clear hn5 hr5 hb5 hP5 hP6 HRC HP4
        go_upto_region 26 with fail
        have hX := HP6.out
        clear x0 x1 x2 xf0 xf1 xf2 HP6
        generalize ((w5.setCell ⟨xb, 0, none⟩ (.slice q5 n5 c5')).setCell ⟨xb, 1, none⟩ (.int .i64 (-1))).setCell ⟨xb, 2, none⟩ (.bool false) = w6 at hX ⊢
        obtain ⟨k2, hk2⟩ : ∃ x, crashD k keep = x := ⟨_, rfl⟩
        rw [hk2] at hX
        have x0 := hX.ref.c 0 rfl
        have x1 := hX.ref.c 1 rfl
        have x2 := hX.ref.c 2 rfl
        have xf0 := hX.ref.f 0
        have xf1 := hX.ref.f 1
        have xf2 := hX.ref.f 2
        have HX := Lib.hid hX
        have HE : Hid (k2 = playD (l.take (i + 1))) := Lib.hid (by rw [HST.out, HPS.out, hk2])
        clear hX hk2
        go_wp2_with fail
        refine (unlike_any HX.out.dk HX.out.row).mono ?_
        rintro e wu ⟨rfl, hdu, hbu⟩
        have HU := Lib.hid (HX.out.below hbu)
        clear hdu hbu x0 x1 x2 xf0 xf1 xf2
        go_wp2_with fail
        refine ⟨⟨i + 1, d, k2, q5, n5, c5', by omega, rfl, by simp, HE, HU⟩, ?_⟩
        simp only [intOf]
        omega
      by_cases h6 : kind = 6
      · subst h6
        clear h1 h2 h3 h4 h5
        have har := arm_dk (HPA.out.sepc HCA.out) m HMB.out.2
        have HAR := Lib.hid har
        have HPS : Hid (playStep k ⟨6, m, nm, s, keep⟩ = armD k m) := Lib.hid rfl
        clear har
        go_wp2_with fail
        refine (HAR.out).mono ?_
        rintro e w4 ⟨rfl, hd4, hk4⟩
        have hP4 := HPA.out.turnc hd4 hk4
        have hC4 := HCA.out.keptF hk4 (fun hf => hf.2 rfl)
        have HP4 := Lib.hid hP4
        clear c0 c1 c2 c3 c4 x0 x1 x2 xf0 xf1 xf2 hd4 hk4 HAR
        have x0 := hP4.ref.c 0 rfl
        have x1 := hP4.ref.c 1 rfl
        have x2 := hP4.ref.c 2 rfl
        have xf0 := hP4.ref.f 0
        have xf1 := hP4.ref.f 1
        have xf2 := hP4.ref.f 2
        have c0 := hC4.c 0 rfl
        have c1 := hC4.c 1 rfl
        have c2 := hC4.c 2 rfl
        have c3 := hC4.c 3 rfl
        have c4 := hC4.c 4 rfl
        clear hP4 hC4
        go_wp2_with fail
        refine (arm_ref w4 qv nv cv k.fuse m k.down).mono ?_
        rintro e w5 ⟨rfl, hb5⟩
        have hP5 := HP4.out.below hb5
        clear c0 c1 c2 c3 c4 x0 x1 x2 xf0 xf1 xf2
        have x0 := hP5.ref.c 0 rfl
        have x1 := hP5.ref.c 1 rfl
        have x2 := hP5.ref.c 2 rfl
        have xf0 := hP5.ref.f 0
        have xf1 := hP5.ref.f 1
        have xf2 := hP5.ref.f 2
        have hP6 : PlM w (((w5.setCell ⟨xb, 0, none⟩ (.slice qv nv cv)).setCell ⟨xb, 1, none⟩ (.int .i64 (max m (-1)))).setCell ⟨xb, 2, none⟩ (.bool k.down)) b0 xb d (armD k m) (armD k m) (.slice qv nv cv) := HP4.out.refset (kr' := armD k m) hb5 hP5.row
        have HP6 := Lib.hid hP6
        clear hb5 hP5 hP6 HP4
        go_upto_region 26 with fail
        have hX := HP6.out
        clear x0 x1 x2 xf0 xf1 xf2 HP6
        generalize ((w5.setCell ⟨xb, 0, none⟩ (.slice qv nv cv)).setCell ⟨xb, 1, none⟩ (.int .i64 (max m (-1)))).setCell ⟨xb, 2, none⟩ (.bool k.down) = w6 at hX ⊢
        obtain ⟨k2, hk2⟩ : ∃ x, armD k m = x := ⟨_, rfl⟩
        rw [hk2] at hX
        have x0 := hX.ref.c 0 rfl
        have x1 := hX.ref.c 1 rfl
        have x2 := hX.ref.c 2 rfl
        have xf0 := hX.ref.f 0
        have xf1 := hX.ref.f 1
        have xf2 := hX.ref.f 2
        have HX := Lib.hid hX
        have HE : Hid (k2 = playD (l.take (i + 1))) := Lib.hid (by rw [HST.out, HPS.out, hk2])
        clear hX hk2
        go_wp2_with fail
        refine (unlike_any HX.out.dk HX.out.row).mono ?_
        rintro e wu ⟨rfl, hdu, hbu⟩
        have HU := Lib.hid (HX.out.below hbu)
        clear hdu hbu x0 x1 x2 xf0 xf1 xf2
        go_wp2_with fail
        refine ⟨⟨i + 1, d, k2, qv, nv, cv, by omega, rfl, by simp, HE, HU⟩, ?_⟩
        simp only [intOf]
        omega
      by_cases h7 : kind = 7
      · subst h7
        clear h1 h2 h3 h4 h5 h6
        have hcp := copy_dk HPA.out.dk
        have HCP := Lib.hid hcp
        have HPS : Hid (playStep k ⟨7, m, nm, s, keep⟩ = k) := Lib.hid rfl
        clear hcp
        go_wp2_with fail
        refine (HCP.out).mono ?_
        rintro e w4 ⟨d2, rfl, hd4, hb4⟩
        have hX := HPA.out.other hb4 hd4
        clear c0 c1 c2 c3 c4 x0 x1 x2 xf0 xf1 xf2 hd4 hb4 HCP
        have x0 := hX.ref.c 0 rfl
        have x1 := hX.ref.c 1 rfl
        have x2 := hX.ref.c 2 rfl
        have xf0 := hX.ref.f 0
        have xf1 := hX.ref.f 1
        have xf2 := hX.ref.f 2
        have HX := Lib.hid hX
        have HE : Hid (k = playD (l.take (i + 1))) := Lib.hid (by rw [HST.out, HPS.out])
        clear hX
        go_wp2_with fail
        refine (unlike_any HX.out.dk HX.out.row).mono ?_
        rintro e wu ⟨rfl, hdu, hbu⟩
        have HU := Lib.hid (HX.out.below hbu)
        clear hdu hbu x0 x1 x2 xf0 xf1 xf2
        go_wp2_with fail
        refine ⟨⟨i + 1, d2, k, qv, nv, cv, by omega, rfl, by simp, HE, HU⟩, ?_⟩
        simp only [intOf]
        omega
      · skip
        have HPS : Hid (playStep k ⟨kind, m, nm, s, keep⟩ = k) := Lib.hid (by unfold playStep; rw [if_neg (by rintro (e | e | e | e) <;> first | exact h1 e | exact h2 e | exact h3 e | exact h4 e), if_neg h5, if_neg h6])
        have g1 : (kind == 1) = false := by simp [h1]
        have g2 : (kind == 2) = false := by simp [h2]
        have g3 : (kind == 3) = false := by simp [h3]
        have g4 : (kind == 4) = false := by simp [h4]
        have g5 : (kind == 5) = false := by simp [h5]
        have g6 : (kind == 6) = false := by simp [h6]
        have g7 : (kind == 7) = false := by simp [h7]
        have HX := HPA
        have HE : Hid (k = playD (l.take (i + 1))) := Lib.hid (by rw [HST.out, HPS.out])
        clear h1 h2 h3 h4 h5 h6 h7 HPA
        go_wp2_with fail
        refine (unlike_any HX.out.dk HX.out.row).mono ?_
        rintro e wu ⟨rfl, hdu, hbu⟩
        have HU := Lib.hid (HX.out.below hbu)
        clear hdu hbu x0 x1 x2 xf0 xf1 xf2
        go_wp2_with fail
        refine ⟨⟨i + 1, d, k, qv, nv, cv, by omega, rfl, by simp, HE, HU⟩, ?_⟩
        simp only [intOf]
        omega
    · obtain rfl : i = N := by omega
      have HX : Hid (k = playD l) := Lib.hid (by rw [HPK.out, List.take_of_length_le (by rw [HN.out]; exact Nat.le_refl _)])
      have hP := HP.out
      have x0 := hP.ref.c 0 rfl
      have x1 := hP.ref.c 1 rfl
      have x2 := hP.ref.c 2 rfl
      have z0 := hP.res.c 0 rfl
      have z1 := hP.res.c 1 rfl
      have z2 := hP.res.c 2 rfl
      have k0 := hP.res.f 0
      have k1 := hP.res.f 1
      have k2 := hP.res.f 2
      clear hP
      go_upto_region 29 with fail
      go_region
      go_wp2_with fail
      obtain ⟨e1, e2, e3⟩ := fin28b (fuse := k.fuse) (down := k.down) HP.out.res HP.out.row HP.out.bw (Nat.le_refl b0) HB0.out
      have hk : Kept (fun j => j = b0) wr (((wr.setCell ⟨b0, 0, none⟩ (.slice qv nv cv)).setCell ⟨b0, 1, none⟩ (.int .i64 k.fuse)).setCell ⟨b0, 2, none⟩ (.bool k.down)) := ((((Kept.refl (fun j => j = b0) wr).set ⟨b0, 0, none⟩ _ (.inr rfl)).set ⟨b0, 1, none⟩ _ (.inr rfl)).set ⟨b0, 2, none⟩ _ (.inr rfl))
      have hd := ((HP.out.sep.far hk (fun j hj _ e => hj.1.1.2 e)).mono (G := fun j => b0 ≤ j) (fun j hj _ => hj.1.1.1)).drewN 1
      refine bodyPost_ret (v := .tuple #[.pointer (some ⟨d, 0, none⟩), .agg #[.slice qv nv cv, .int .i64 k.fuse, .bool k.down]]) (ret_tc rfl rfl rfl e1.drew) rfl ⟨d, qv, nv, cv, ?_, ?_, ?_, Below.dropped e3⟩
      · rw [← HX.out]
      · rw [← HX.out]; exact hd
      · rw [← HX.out]; exact e2
end Go.Proofs.Ytfkefppabjbbdaa
