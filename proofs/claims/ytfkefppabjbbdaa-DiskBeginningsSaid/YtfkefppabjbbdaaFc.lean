/- The document's answer: a file in its place. -/
import Derived.Test.YtfkefppabjbbdaaFb
import Derived.BigQuiet
import Derived.Deep.RegionLaw
namespace Go.Proofs.Ytfkefppabjbbdaa
open Go.RowKit Go.Maps
set_option linter.unusedVariables false
theorem ins_all {f : Fl} : ∀ {A : List Fl}, (∀ x ∈ A, x.name < f.name) → ins f A = A ++ [f]
  | [], _ => rfl
  | z :: r, h => by
    have hz := h z (List.mem_cons.2 (.inl rfl))
    show (if f.name < z.name then _ else if f.name = z.name then _ else z :: insK Fl.name f r) = _
    rw [if_neg (lt_asy hz), if_neg (fun e => lt_irr _ (e ▸ hz))]
    have := ins_all (f := f) (A := r) (fun x hx => h x (List.mem_cons.2 (.inr hx)))
    unfold ins at this
    rw [this]
    rfl
theorem ins_lt {f y : Fl} : ∀ {A : List Fl}, (∀ x ∈ A, x.name < f.name) → f.name < y.name → ins f (A ++ [y]) = A ++ [f] ++ [y]
  | [], _, hy => by
    show (if f.name < y.name then _ else _) = _
    rw [if_pos hy]
    rfl
  | z :: r, h, hy => by
    have hz := h z (List.mem_cons.2 (.inl rfl))
    show (if f.name < z.name then _ else if f.name = z.name then _ else z :: insK Fl.name f (r ++ [y])) = _
    rw [if_neg (lt_asy hz), if_neg (fun e => lt_irr _ (e ▸ hz))]
    have := ins_lt (f := f) (y := y) (A := r) (fun x hx => h x (List.mem_cons.2 (.inr hx))) hy
    unfold ins at this
    rw [this]
    rfl
theorem ins_eq {f y : Fl} : ∀ {A : List Fl}, (∀ x ∈ A, x.name < f.name) → f.name = y.name → ins f (A ++ [y]) = A ++ [f]
  | [], _, hy => by
    show (if f.name < y.name then _ else if f.name = y.name then _ else _) = _
    rw [if_neg (fun e => lt_irr _ (hy ▸ e)), if_pos hy]
    rfl
  | z :: r, h, hy => by
    have hz := h z (List.mem_cons.2 (.inl rfl))
    show (if f.name < z.name then _ else if f.name = z.name then _ else z :: insK Fl.name f (r ++ [y])) = _
    rw [if_neg (lt_asy hz), if_neg (fun e => lt_irr _ (e ▸ hz))]
    have := ins_eq (f := f) (y := y) (A := r) (fun x hx => h x (List.mem_cons.2 (.inr hx))) hy
    unfold ins at this
    rw [this]
    rfl
theorem ins_past {f y : Fl} : ∀ {A : List Fl}, (∃ x ∈ A, ¬ x.name < f.name) → ins f (A ++ [y]) = ins f A ++ [y]
  | [], ⟨_, h, _⟩ => by cases h
  | z :: r, h => by
    show insK Fl.name f (z :: (r ++ [y])) = insK Fl.name f (z :: r) ++ [y]
    unfold insK
    split
    · rfl
    · split
      · rfl
      · rename_i h1 h2
        obtain ⟨x, hx, hn⟩ := h
        have hx' : x ∈ r := by
          rcases List.mem_cons.1 hx with rfl | hx
          · exact absurd (lt_tri h1 (fun e => h2 e)) hn
          · exact hx
        have := ins_past (f := f) (y := y) (A := r) ⟨x, hx', hn⟩
        unfold ins at this
        rw [this]
        rfl
/-- What is in memory within a round. -/
structure PB (w : World) (b0 : Nat) (v : Value) (f x : Fl) (ad : Addr) (i : Nat) (qo : Option Addr) (m capo : Nat) (fuse : Int) (down : Bool) (A : List Fl) : Prop where
  out : Out w (b0 + 1 + 1 + 1) qo m capo fuse down A
  dsk : Blk w b0 [v, .int .i64 fuse, .bool down] 28
  fil : Blk w (b0 + 1) (fcells f) 71
  inn : FIn w ad i x
  low : ad.block < b0
theorem FIn.below {w w' : World} {ad : Addr} {j B : Nat} {f : Fl} (h : FIn w ad j f) (hb : Below B w w') (hl : ad.block < B) : FIn w' ad j f := by
  have c : w'.cell? (ad.add (j * 4)) = w.cell? (ad.add (j * 4)) := World.cell?_of_block (w := w) (a := ad.add (j * 4)) (hb.block _ (by rw [add_block]; exact hl))
  have c' : ∀ m, w'.cell? ⟨(ad.add (j * 4)).block, m, none⟩ = w.cell? ⟨(ad.add (j * 4)).block, m, none⟩ := fun m => World.cell?_of_block (w := w) (a := ⟨(ad.add (j * 4)).block, m, none⟩) (hb.block _ (by rw [add_block]; exact hl))
  exact ⟨by rw [c]; exact h.c0, by rw [c']; exact h.c1, by rw [c']; exact h.c2, by rw [c']; exact h.c3⟩
section
variable {w w' : World} {b0 : Nat} {v : Value} {f x : Fl} {ad : Addr} {i : Nat} {qo qo' : Option Addr} {m m' capo capo' : Nat} {fuse : Int} {down : Bool} {A A' : List Fl}
theorem PB.next (h : PB w b0 v f x ad i qo m capo fuse down A) (hb : Below (b0 + 1 + 1 + 1) w w') (ho : Out w' (b0 + 1 + 1 + 1) qo' m' capo' fuse down A') : PB w' b0 v f x ad i qo' m' capo' fuse down A' :=
  ⟨ho, h.dsk.below hb (by omega), h.fil.below hb (by omega), h.inn.below hb (by have := h.low; omega), h.low⟩
theorem below_drew (B : Nat) (w : World) : Below B w w.drew := ⟨rfl, rfl, rfl, Nat.le_refl _, fun _ _ => rfl⟩
theorem below_drewN3 (B : Nat) (w : World) (k : Nat) : Below B w (w.drewN k) := ⟨rfl, rfl, rfl, Nat.le_refl _, fun _ _ => rfl⟩
theorem PB.drewN (h : PB w b0 v f x ad i qo m capo fuse down A) (k : Nat) : PB (w.drewN k) b0 v f x ad i qo m capo fuse down A := h.next (below_drewN3 _ w k) ⟨h.out.self.drewN k, h.out.row⟩
theorem PB.drew (h : PB w b0 v f x ad i qo m capo fuse down A) : PB w.drew b0 v f x ad i qo m capo fuse down A := h.next (below_drew _ w) ⟨h.out.self.drew, h.out.row⟩
end
theorem less_yes {a b : List UInt8} (h : a < b) : Op.bytesLess (bs a).toList (bs b).toList = true := by rw [bs_toList, bs_toList, Go.Proofs.bytesLess_eq]; simpa using h
theorem less_no {a b : List UInt8} (h : ¬ a < b) : Op.bytesLess (bs a).toList (bs b).toList = false := by rw [bs_toList, bs_toList, Go.Proofs.bytesLess_eq]; simpa using h
/-- The result's cells are written. -/
theorem fin28 {w wf : World} {b0 c base : Nat} {v : Value} {fuse : Int} {down : Bool} {L : List Fl} {z0 z1 z2 : Value} (hb : Blk wf c [z0, z1, z2] 28) (hr : Files wf base v L) (hw : Below b0 w wf) (hc : b0 ≤ c) (hbase : b0 ≤ base) (hs : w.heap.size = b0) :
    Blk (((wf.setCell ⟨c, 0, none⟩ v).setCell ⟨c, 1, none⟩ (.int .i64 fuse)).setCell ⟨c, 2, none⟩ (.bool down)) c [v, .int .i64 fuse, .bool down] 28 ∧ Files (((wf.setCell ⟨c, 0, none⟩ v).setCell ⟨c, 1, none⟩ (.int .i64 fuse)).setCell ⟨c, 2, none⟩ (.bool down)) b0 v L ∧
      Below b0 w (((wf.setCell ⟨c, 0, none⟩ v).setCell ⟨c, 1, none⟩ (.int .i64 fuse)).setCell ⟨c, 2, none⟩ (.bool down)) := by
  have hne := files_ne hr hb (by decide)
  have hsz := hw.size
  have g1 := World.ownsRow.kept hr (grownBy_set wf ⟨c, 0, none⟩ v) (.inr hne)
  have g2 := World.ownsRow.kept g1 (grownBy_set _ ⟨c, 1, none⟩ (.int .i64 fuse)) (.inr hne)
  have g3 := World.ownsRow.kept g2 (grownBy_set _ ⟨c, 2, none⟩ (.bool down)) (.inr hne)
  refine ⟨((hb.set 0 _).set 1 _).set 2 _, Files.mono g3 hbase, ?_⟩
  exact ((hw.grown (grownBy_set wf ⟨c, 0, none⟩ v) (by omega) (fun j hj => by cases hj; exact hc)).grown (grownBy_set _ ⟨c, 1, none⟩ (.int .i64 fuse)) (by simp [World.setCell]; omega) (fun j hj => by cases hj; exact hc)).grown (grownBy_set _ ⟨c, 2, none⟩ (.bool down)) (by simp [World.setCell]; omega) (fun j hj => by cases hj; exact hc)
/-- How far the list is: behind i files of L. -/
def PutA (f : Fl) (L : List Fl) (dn : Bool) (i : Nat) : List Fl := if dn then ins f (L.take i) else L.take i
structure PutI (f : Fl) (L : List Fl) (dn : Bool) (i : Nat) : Prop where
  no : dn = false → ∀ x ∈ L.take i, x.name < f.name
  yes : dn = true → ∃ x ∈ L.take i, ¬ x.name < f.name
set_option maxRecDepth 100000 in
set_option maxHeartbeats 4000000 in
theorem put_any {w : World} {base : Nat} {v : Value} {L : List Fl} (h : Files w base v L) (hl : L.length ≤ 1000000) (hs : Sorted Fl.name L) (fuse : Int) (down : Bool) (f : Fl) :
    Calls Try.prog 42 #[.agg #[v, .int .i64 fuse, .bool down], .agg #[.string (bs f.name), .string (bs f.s), .int .i64 (f.lasts : Int), .bool f.stays]] w fun e w' => ∃ v', e = .returned (.agg #[v', .int .i64 fuse, .bool down]) ∧ Files w' w.heap.size v' (ins f L) ∧ Below w.heap.size w w' := by
  obtain ⟨q, cap, rfl⟩ := h.len
  have HV := Lib.hid h
  have HSO := Lib.hid hs
  clear h hs
  obtain ⟨N, hN⟩ : ∃ N, L.length = N := ⟨_, rfl⟩
  rw [hN] at HV hl
  rw [hN]
  have HN := Lib.hid hN
  clear hN
  obtain ⟨i0, hi0, hz0, hz1, hz2⟩ := info71_parts
  obtain ⟨b0, hb0⟩ : ∃ b, w.heap.size = b := ⟨_, rfl⟩
  have HB0 := Lib.hid hb0
  rw [hb0]
  go_enter Try.func42, Try.ntmps42
  go_wp2_with fail
  have hA0 : Blk ((((w.alloc (.cells #[.slice q N cap, .int .i64 fuse, .bool down] 28)).alloc (.cells #[.string (bs f.name), .string (bs f.s), .int .i64 (f.lasts : Int), .bool f.stays] 71)).alloc (.cells #[.slice none 0 0, .int .i64 0, .bool false] 28)).alloc (.cells #[.slice none 0 0, .int .i64 fuse, .bool down] 28)) b0 [.slice q N cap, .int .i64 fuse, .bool down] 28 := (((Blk.at hb0.symm [_, _, _] 28).alloc _).alloc _).alloc _
  have hA1 : Blk ((((w.alloc (.cells #[.slice q N cap, .int .i64 fuse, .bool down] 28)).alloc (.cells #[.string (bs f.name), .string (bs f.s), .int .i64 (f.lasts : Int), .bool f.stays] 71)).alloc (.cells #[.slice none 0 0, .int .i64 0, .bool false] 28)).alloc (.cells #[.slice none 0 0, .int .i64 fuse, .bool down] 28)) (b0 + 1) (fcells f) 71 := ((Blk.at (by simp; omega) [_, _, _, _] 71).alloc _).alloc _
  have hA2 : Blk ((((w.alloc (.cells #[.slice q N cap, .int .i64 fuse, .bool down] 28)).alloc (.cells #[.string (bs f.name), .string (bs f.s), .int .i64 (f.lasts : Int), .bool f.stays] 71)).alloc (.cells #[.slice none 0 0, .int .i64 0, .bool false] 28)).alloc (.cells #[.slice none 0 0, .int .i64 fuse, .bool down] 28)) (b0 + 1 + 1) [.slice none 0 0, .int .i64 0, .bool false] 28 := (Blk.at (by simp; omega) [_, _, _] 28).alloc _
  have hA3 : Out ((((w.alloc (.cells #[.slice q N cap, .int .i64 fuse, .bool down] 28)).alloc (.cells #[.string (bs f.name), .string (bs f.s), .int .i64 (f.lasts : Int), .bool f.stays] 71)).alloc (.cells #[.slice none 0 0, .int .i64 0, .bool false] 28)).alloc (.cells #[.slice none 0 0, .int .i64 fuse, .bool down] 28)) (b0 + 1 + 1 + 1) none 0 0 fuse down [] := ⟨Blk.at (by simp; omega) [_, _, _] 28, Files.nil _ _⟩
  have hAV := (((HV.out.alloc (.cells #[.slice q N cap, .int .i64 fuse, .bool down] 28)).alloc (.cells #[.string (bs f.name), .string (bs f.s), .int .i64 (f.lasts : Int), .bool f.stays] 71)).alloc (.cells #[.slice none 0 0, .int .i64 0, .bool false] 28)).alloc (.cells #[.slice none 0 0, .int .i64 fuse, .bool down] 28)
  have hBB : Below b0 w ((((w.alloc (.cells #[.slice q N cap, .int .i64 fuse, .bool down] 28)).alloc (.cells #[.string (bs f.name), .string (bs f.s), .int .i64 (f.lasts : Int), .bool f.stays] 71)).alloc (.cells #[.slice none 0 0, .int .i64 0, .bool false] 28)).alloc (.cells #[.slice none 0 0, .int .i64 fuse, .bool down] 28)) := ((((Below.refl _ w).alloc (by omega) _).alloc (by simp; omega) _).alloc (by simp; omega) _).alloc (by simp; omega) _
  have hlow : ∀ (g : Nat), Value.ownBlock (.slice q N cap) = some g → g < b0 := fun g hg => by
    rcases HV.out.2 with ⟨e, _⟩ | ⟨g', cap', cur, e, _, hh, _⟩
    · rw [e] at hg; cases hg
    · rw [e] at hg; cases hg; have := lt_of_block hh; show g' < b0; omega
  revert hA0 hA1 hA2 hA3 hAV hBB
  generalize ((((w.alloc (.cells #[.slice q N cap, .int .i64 fuse, .bool down] 28)).alloc (.cells #[.string (bs f.name), .string (bs f.s), .int .i64 (f.lasts : Int), .bool f.stays] 71)).alloc (.cells #[.slice none 0 0, .int .i64 0, .bool false] 28)).alloc (.cells #[.slice none 0 0, .int .i64 fuse, .bool down] 28)) = w0
  intro hA0 hA1 hA2 hA3 hAV hBB
  have HA0 := Lib.hid hA0
  have HA1 := Lib.hid hA1
  have HA2 := Lib.hid hA2
  have HA3 := Lib.hid hA3
  have HAV := Lib.hid hAV
  have HBB := Lib.hid hBB
  have HLOW := Lib.hid hlow
  clear hA0 hA1 hA2 hA3 hAV hBB hlow hb0
  go_loopw [6, 7] (fun dv iv wr => ∃ (dn : Bool) (i : Nat) (qo : Option Addr) (m capo : Nat), i ≤ N ∧ dv = .bool dn ∧ iv = .int .i64 i ∧ Hid (PutI f L dn i) ∧ Hid (Out wr (b0 + 1 + 1 + 1) qo m capo fuse down (PutA f L dn i)) ∧ Hid (m ≤ 2 * i) ∧ Hid (Below (b0 + 1 + 1 + 1) w0 wr)) (fun _ iv _ => N - (intOf iv).toNat)
  case atStart => exact ⟨false, 0, none, 0, 0, by omega, rfl, rfl, ⟨fun _ x hx => by simp at hx, fun h => by cases h⟩, HA3, Lib.hid (by omega), Lib.hid (Below.refl _ _)⟩
  case round =>
    obtain ⟨dn, i, qo, m, capo, hi, rfl, rfl, HPI, HO, HM, HB⟩ := hrel
    by_cases hlt : i < N
    · have hil : i < L.length := by rw [HN.out]; exact hlt
      have hVr : Files wr base (.slice q N cap) L := HAV.out.keptF (G := fun j => b0 + 1 + 1 + 1 ≤ j) ⟨HB.out.os, HB.out.tape, HB.out.output, HB.out.size, fun k hk hG => HB.out.block k (by omega)⟩ (fun g hg => by have := HLOW.out g hg; omega)
      obtain ⟨ad, rfl, hab, -, hin⟩ := hVr.at i hil
      obtain ⟨x, hx⟩ : ∃ x, L[i] = x := ⟨_, rfl⟩
      rw [hx] at hin
      have hadl : ad.block < b0 := HLOW.out _ rfl
      have hT : L.take (i + 1) = L.take i ++ [x] := by rw [List.take_succ_eq_append_getElem hil, hx]
      have HT := Lib.hid hT
      have hP : PB wr b0 (.slice (some ad) N cap) f x ad i qo m capo fuse down (PutA f L dn i) := ⟨HO.out, HA0.out.below HB.out (by omega), HA1.out.below HB.out (by omega), hin, hadl⟩
      have HLT : Hid (∀ y ∈ L.take i, y.name < x.name) := Lib.hid (fun y hy => by
        have h1 : (L.take (i + 1)).Pairwise (fun a b => a.name < b.name) := HSO.out.take
        rw [hT] at h1
        exact (List.pairwise_append.1 h1).2.2 y hy x (by simp))
      obtain ⟨A, hA⟩ : ∃ A, PutA f L dn i = A := ⟨_, rfl⟩
      rw [hA] at hP
      have HAA := Lib.hid hA
      have HP := Lib.hid hP
      have hml : m ≤ 2000000 := by have := HM.out; omega
      have HIX := Lib.hid hil
      clear hx hT hA hVr hin hil hadl hab
      cases dn
      case false =>
        have HLF : Hid (∀ y ∈ L.take i, y.name < f.name) := Lib.hid (HPI.out.no rfl)
        have HAE : Hid (A = L.take i) := Lib.hid HAA.out.symm
        by_cases hc : x.name < f.name
        · have l1 := less_no (a := f.name) (b := x.name) (lt_asy hc)
          have l2 := text_no (a := f.name) (b := x.name) (fun e => lt_irr _ (e ▸ hc))
          have q1 := text_no (a := x.name) (b := f.name) (fun e => lt_irr _ (e ▸ hc))
          have q2 : ((bs x.name).toList != (bs f.name).toList) = true := by rw [bne, q1]; rfl
          have HF2 : Hid (PutI f L false (i + 1) ∧ A ++ [x] = PutA f L false (i + 1)) := Lib.hid ⟨⟨fun _ y hy => by
            rw [HT.out] at hy
            rcases List.mem_append.1 hy with hy | hy
            · exact HLF.out y hy
            · rw [List.mem_singleton] at hy; rw [hy]; exact hc, fun h => by cases h⟩, by rw [HAE.out, ← HT.out]; rfl⟩
          clear hc
          have a0 := hP.dsk.c 0 rfl
          have t0 := hP.fil.c 0 rfl
          have t1 := hP.fil.c 1 rfl
          have t2 := hP.fil.c 2 rfl
          have t3 := hP.fil.c 3 rfl
          have x0 := hP.inn.c0
          have x1 := hP.inn.c1
          have x2 := hP.inn.c2
          have x3 := hP.inn.c3
          have o0 := hP.out.self.c 0 rfl
          have hB := HB.out
          go_upto_region 6 with fail
          go_quiet (fail)
          have h1 := hP.drewN nq
          have hB1 := hB.trans (below_drewN3 (b0 + 1 + 1 + 1) wr nq)
          generalize wr.drewN nq = w1 at h1 hB1 ⊢
          clear a0 t0 t1 t2 t3 x0 x1 x2 x3 o0
          clear hP hB
          have a0b := h1.dsk.c 0 rfl
          have t0b := h1.fil.c 0 rfl
          have t1b := h1.fil.c 1 rfl
          have t2b := h1.fil.c 2 rfl
          have t3b := h1.fil.c 3 rfl
          have x0b := h1.inn.c0
          have x1b := h1.inn.c1
          have x2b := h1.inn.c2
          have x3b := h1.inn.c3
          have o0b := h1.out.self.c 0 rfl
          go_upto_region 9 with fail
          go_quiet (fail)
          have h2 := h1.drewN nq
          have hB2 := hB1.trans (below_drewN3 (b0 + 1 + 1 + 1) w1 nq)
          generalize w1.drewN nq = w2 at h2 hB2 ⊢
          clear a0b t0b t1b t2b t3b x0b x1b x2b x3b o0b
          clear h1 hB1
          have a0c := h2.dsk.c 0 rfl
          have t0c := h2.fil.c 0 rfl
          have t1c := h2.fil.c 1 rfl
          have t2c := h2.fil.c 2 rfl
          have t3c := h2.fil.c 3 rfl
          have x0c := h2.inn.c0
          have x1c := h2.inn.c1
          have x2c := h2.inn.c2
          have x3c := h2.inn.c3
          have o0c := h2.out.self.c 0 rfl
          have HP2 := Lib.hid h2
          have HB2 := Lib.hid hB2
          clear h2 hB2
          go_upto_region 10 with fail
          have HD := Lib.hid (HP2.out.drew)
          have o2 : (w2.alloc (.cells #[.string (bs x.name), .string (bs x.s), .int .i64 (x.lasts : Int), .bool x.stays] 71)).drew.cell? ⟨b0 + 1 + 1 + 1, 0, none⟩ = some (.slice qo m capo) := (HD.out.out.self.alloc (.cells #[.string (bs x.name), .string (bs x.s), .int .i64 (x.lasts : Int), .bool x.stays] 71)).c 0 rfl
          have HS : Hid (b0 + 1 + 1 + 1 < w2.heap.size) := Lib.hid HP2.out.out.self.lt
          go_region_law (refine step_append_lies _ rfl (.tmp 49) (.tmp 55) 26 rfl (b0 + 1 + 1 + 1 + 1) 71 i0 _ 4 48 Try.underlying26 hi0 hz0 hz1 hz2 rfl (by decide) (.slice qo m capo) (m) (fls A) rfl (by have h1 := (HD.out.out.row.alloc (.cells #[.string (bs x.name), .string (bs x.s), .int .i64 (x.lasts : Int), .bool x.stays] 71)); unfold Files at h1; rw [← HD.out.out.len] at h1; exact h1) ⟨w2.heap.size, 0, none⟩ 1 1 (fcells x) rfl rfl (news_of (w := w2.drew) x w2.heap.size rfl) (fcells_one x) (by decide) (by unfold maxLen; omega) (by omega) (by have := HS.out; simp; omega) _ rfl ?_; intro g cap2 w3 hown hgr hat hlt3; obtain ⟨p1, p2, p3⟩ := HD.out.out.put x hown hgr; have o3 := p1.c 0 rfl; have f3 := p1.f 0; have HO3 := Lib.hid p2; have HB3 := Lib.hid (Below.trans (below_drew _ w2) p3); clear p1 p2 p3 hown hgr hat)
          all_goals (go_wp2_with fail)
          all_goals
            refine ⟨⟨false, i + 1, some ⟨g, 0, none⟩, m + 1, cap2, by omega, by simp, by simp, Lib.hid HF2.out.1, ?_, Lib.hid (by have := HM.out; omega), Lib.hid (HB2.out.trans HB3.out)⟩, ?_⟩
            · rw [← HF2.out.2]; exact HO3
            · simp only [intOf]
              omega
        · by_cases he : x.name = f.name
          · have l1 := less_no (a := f.name) (b := x.name) (fun e => lt_irr _ (he ▸ e))
            have l2 := text_yes he.symm
            have q1 := text_yes he
            have q2 : ((bs x.name).toList != (bs f.name).toList) = false := by rw [bne, q1]; rfl
            have HF2 : Hid (PutI f L true (i + 1) ∧ A ++ [f] = PutA f L true (i + 1)) := Lib.hid ⟨⟨fun h => (by cases h), fun _ => ⟨x, by rw [HT.out]; simp, hc⟩⟩, by
              show _ = ins f (L.take (i + 1))
              rw [HT.out, ins_eq HLF.out he.symm, HAE.out]⟩
            clear hc he
            have a0 := hP.dsk.c 0 rfl
            have t0 := hP.fil.c 0 rfl
            have t1 := hP.fil.c 1 rfl
            have t2 := hP.fil.c 2 rfl
            have t3 := hP.fil.c 3 rfl
            have x0 := hP.inn.c0
            have x1 := hP.inn.c1
            have x2 := hP.inn.c2
            have x3 := hP.inn.c3
            have o0 := hP.out.self.c 0 rfl
            have hB := HB.out
            go_upto_region 6 with fail
            go_quiet (fail)
            have h1 := hP.drewN nq
            have hB1 := hB.trans (below_drewN3 (b0 + 1 + 1 + 1) wr nq)
            generalize wr.drewN nq = w1 at h1 hB1 ⊢
            clear a0 t0 t1 t2 t3 x0 x1 x2 x3 o0
            clear hP hB
            have a0b := h1.dsk.c 0 rfl
            have t0b := h1.fil.c 0 rfl
            have t1b := h1.fil.c 1 rfl
            have t2b := h1.fil.c 2 rfl
            have t3b := h1.fil.c 3 rfl
            have x0b := h1.inn.c0
            have x1b := h1.inn.c1
            have x2b := h1.inn.c2
            have x3b := h1.inn.c3
            have o0b := h1.out.self.c 0 rfl
            have hrow1 := (h1.out.row.alloc (.cells #[.string (bs f.name), .string (bs f.s), .int .i64 (f.lasts : Int), .bool f.stays] 71))
            unfold Files at hrow1
            rw [← h1.out.len] at hrow1
            have ob1 := (h1.out.self.alloc (.cells #[.string (bs f.name), .string (bs f.s), .int .i64 (f.lasts : Int), .bool f.stays] 71)).c 0 rfl
            have hsz1 := h1.out.self.lt
            have HP1 := Lib.hid h1
            have HB1 := Lib.hid hB1
            have HR1 := Lib.hid hrow1
            clear h1 hB1 hrow1
            go_wp2_with (at_builtin; refine wpList_append_lies _ rfl (.tmp 34) (.tmp 36) 26 rfl (b0 + 1 + 1 + 1 + 1) 71 i0 _ 4 48 Try.underlying26 hi0 hz0 hz1 hz2 rfl (by decide) (.slice qo m capo) m (fls A) rfl HR1.out ⟨w1.heap.size, 0, none⟩ 1 1 (fcells f) rfl rfl (news_of (w := w1) f w1.heap.size rfl) (fcells_one f) (by decide) (by unfold maxLen; omega) (by omega) (by simp; omega) _ rfl ?_)
            intro g cap2 w3 hown hgr hat hlt3
            obtain ⟨p1, p2, p3⟩ := HP1.out.out.put f hown hgr
            have o3 := p1.c 0 rfl
            have f3 := p1.f 0
            have h2 := HP1.out.next p3 p2
            have hB2 := HB1.out.trans p3
            have HP2 := Lib.hid h2
            have HB2 := Lib.hid hB2
            clear a0b t0b t1b t2b t3b x0b x1b x2b x3b o0b
            clear p1 p2 p3 hown hgr hat ob1 hsz1 h2 hB2
            go_upto_region 9 with fail
            have h2 := HP2.out
            have hB2 := HB2.out
            clear HP2 HB2 o3 f3
            generalize w3.setCell ⟨b0 + 1 + 1 + 1, 0, none⟩ (.slice (some ⟨g, 0, none⟩) (m + 1) cap2) = w4 at h2 hB2 ⊢
            have a0c := h2.dsk.c 0 rfl
            have t0c := h2.fil.c 0 rfl
            have t1c := h2.fil.c 1 rfl
            have t2c := h2.fil.c 2 rfl
            have t3c := h2.fil.c 3 rfl
            have x0c := h2.inn.c0
            have x1c := h2.inn.c1
            have x2c := h2.inn.c2
            have x3c := h2.inn.c3
            have o0c := h2.out.self.c 0 rfl
            go_quiet (fail)
            have h3 := h2.drewN nq
            have hB3 := hB2.trans (below_drewN3 (b0 + 1 + 1 + 1) w4 nq)
            generalize w4.drewN nq = w5 at h3 hB3 ⊢
            clear a0c t0c t1c t2c t3c x0c x1c x2c x3c o0c
            clear h2 hB2
            have HP3 := Lib.hid h3
            have HB3 := Lib.hid hB3
            clear h3 hB3
            go_wp2_with fail
            refine ⟨⟨true, i + 1, some ⟨g, 0, none⟩, m + 1, cap2, by omega, by simp, by simp, Lib.hid HF2.out.1, ?_, Lib.hid (by have := HM.out; omega), HB3⟩, ?_⟩
            · rw [← HF2.out.2]; exact Lib.hid HP3.out.out
            · simp only [intOf]
              omega
          · have l1 := less_yes (a := f.name) (b := x.name) (lt_tri hc he)
            have l2 := text_no (a := f.name) (b := x.name) (fun e => he e.symm)
            have q1 := text_no he
            have q2 : ((bs x.name).toList != (bs f.name).toList) = true := by rw [bne, q1]; rfl
            have HF2 : Hid (PutI f L true (i + 1) ∧ A ++ [f] ++ [x] = PutA f L true (i + 1)) := Lib.hid ⟨⟨fun h => (by cases h), fun _ => ⟨x, by rw [HT.out]; simp, hc⟩⟩, by
              show _ = ins f (L.take (i + 1))
              rw [HT.out, ins_lt HLF.out (lt_tri hc he), HAE.out]⟩
            clear hc he
            have a0 := hP.dsk.c 0 rfl
            have t0 := hP.fil.c 0 rfl
            have t1 := hP.fil.c 1 rfl
            have t2 := hP.fil.c 2 rfl
            have t3 := hP.fil.c 3 rfl
            have x0 := hP.inn.c0
            have x1 := hP.inn.c1
            have x2 := hP.inn.c2
            have x3 := hP.inn.c3
            have o0 := hP.out.self.c 0 rfl
            have hB := HB.out
            go_upto_region 6 with fail
            go_quiet (fail)
            have h1 := hP.drewN nq
            have hB1 := hB.trans (below_drewN3 (b0 + 1 + 1 + 1) wr nq)
            generalize wr.drewN nq = w1 at h1 hB1 ⊢
            clear a0 t0 t1 t2 t3 x0 x1 x2 x3 o0
            clear hP hB
            have a0b := h1.dsk.c 0 rfl
            have t0b := h1.fil.c 0 rfl
            have t1b := h1.fil.c 1 rfl
            have t2b := h1.fil.c 2 rfl
            have t3b := h1.fil.c 3 rfl
            have x0b := h1.inn.c0
            have x1b := h1.inn.c1
            have x2b := h1.inn.c2
            have x3b := h1.inn.c3
            have o0b := h1.out.self.c 0 rfl
            have hrow1 := (h1.out.row.alloc (.cells #[.string (bs f.name), .string (bs f.s), .int .i64 (f.lasts : Int), .bool f.stays] 71))
            unfold Files at hrow1
            rw [← h1.out.len] at hrow1
            have ob1 := (h1.out.self.alloc (.cells #[.string (bs f.name), .string (bs f.s), .int .i64 (f.lasts : Int), .bool f.stays] 71)).c 0 rfl
            have hsz1 := h1.out.self.lt
            have HP1 := Lib.hid h1
            have HB1 := Lib.hid hB1
            have HR1 := Lib.hid hrow1
            clear h1 hB1 hrow1
            go_wp2_with (at_builtin; refine wpList_append_lies _ rfl (.tmp 34) (.tmp 36) 26 rfl (b0 + 1 + 1 + 1 + 1) 71 i0 _ 4 48 Try.underlying26 hi0 hz0 hz1 hz2 rfl (by decide) (.slice qo m capo) m (fls A) rfl HR1.out ⟨w1.heap.size, 0, none⟩ 1 1 (fcells f) rfl rfl (news_of (w := w1) f w1.heap.size rfl) (fcells_one f) (by decide) (by unfold maxLen; omega) (by omega) (by simp; omega) _ rfl ?_)
            intro g cap2 w3 hown hgr hat hlt3
            obtain ⟨p1, p2, p3⟩ := HP1.out.out.put f hown hgr
            have o3 := p1.c 0 rfl
            have f3 := p1.f 0
            have h2 := HP1.out.next p3 p2
            have hB2 := HB1.out.trans p3
            have HP2 := Lib.hid h2
            have HB2 := Lib.hid hB2
            clear a0b t0b t1b t2b t3b x0b x1b x2b x3b o0b
            clear p1 p2 p3 hown hgr hat ob1 hsz1 h2 hB2
            go_upto_region 9 with fail
            have h2 := HP2.out
            have hB2 := HB2.out
            clear HP2 HB2 o3 f3
            generalize w3.setCell ⟨b0 + 1 + 1 + 1, 0, none⟩ (.slice (some ⟨g, 0, none⟩) (m + 1) cap2) = w4 at h2 hB2 ⊢
            have a0c := h2.dsk.c 0 rfl
            have t0c := h2.fil.c 0 rfl
            have t1c := h2.fil.c 1 rfl
            have t2c := h2.fil.c 2 rfl
            have t3c := h2.fil.c 3 rfl
            have x0c := h2.inn.c0
            have x1c := h2.inn.c1
            have x2c := h2.inn.c2
            have x3c := h2.inn.c3
            have o0c := h2.out.self.c 0 rfl
            go_quiet (fail)
            have h3 := h2.drewN nq
            have hB3 := hB2.trans (below_drewN3 (b0 + 1 + 1 + 1) w4 nq)
            generalize w4.drewN nq = w5 at h3 hB3 ⊢
            clear a0c t0c t1c t2c t3c x0c x1c x2c x3c o0c
            clear h2 hB2 hlt3
            have a0d := h3.dsk.c 0 rfl
            have t0d := h3.fil.c 0 rfl
            have t1d := h3.fil.c 1 rfl
            have t2d := h3.fil.c 2 rfl
            have t3d := h3.fil.c 3 rfl
            have x0d := h3.inn.c0
            have x1d := h3.inn.c1
            have x2d := h3.inn.c2
            have x3d := h3.inn.c3
            have o0d := h3.out.self.c 0 rfl
            have HP2 := Lib.hid h3
            have HB2 := Lib.hid hB3
            clear h3 hB3
            go_upto_region 10 with fail
            have HD := Lib.hid (HP2.out.drew)
            have o2 : (w5.alloc (.cells #[.string (bs x.name), .string (bs x.s), .int .i64 (x.lasts : Int), .bool x.stays] 71)).drew.cell? ⟨b0 + 1 + 1 + 1, 0, none⟩ = some (.slice (some ⟨g, 0, none⟩) (m + 1) cap2) := (HD.out.out.self.alloc (.cells #[.string (bs x.name), .string (bs x.s), .int .i64 (x.lasts : Int), .bool x.stays] 71)).c 0 rfl
            have HS : Hid (b0 + 1 + 1 + 1 < w5.heap.size) := Lib.hid HP2.out.out.self.lt
            go_region_law (refine step_append_lies _ rfl (.tmp 49) (.tmp 55) 26 rfl (b0 + 1 + 1 + 1 + 1) 71 i0 _ 4 48 Try.underlying26 hi0 hz0 hz1 hz2 rfl (by decide) (.slice (some ⟨g, 0, none⟩) (m + 1) cap2) ((m + 1)) (fls (A ++ [f])) rfl (by have h1 := (HD.out.out.row.alloc (.cells #[.string (bs x.name), .string (bs x.s), .int .i64 (x.lasts : Int), .bool x.stays] 71)); unfold Files at h1; rw [← HD.out.out.len] at h1; exact h1) ⟨w5.heap.size, 0, none⟩ 1 1 (fcells x) rfl rfl (news_of (w := w5.drew) x w5.heap.size rfl) (fcells_one x) (by decide) (by unfold maxLen; omega) (by omega) (by have := HS.out; simp; omega) _ rfl ?_; intro g4 cap4 w6 hown hgr hat hlt3; obtain ⟨p1, p2, p3⟩ := HD.out.out.put x hown hgr; have o3 := p1.c 0 rfl; have f3 := p1.f 0; have HO3 := Lib.hid p2; have HB3 := Lib.hid (Below.trans (below_drew _ w5) p3); clear p1 p2 p3 hown hgr hat)
            all_goals (go_wp2_with fail)
            all_goals
              refine ⟨⟨true, i + 1, some ⟨g4, 0, none⟩, m + 1 + 1, cap4, by omega, by simp, by simp, Lib.hid HF2.out.1, ?_, Lib.hid (by have := HM.out; omega), Lib.hid (HB2.out.trans HB3.out)⟩, ?_⟩
              · rw [← HF2.out.2]; exact HO3
              · simp only [intOf]
                omega
      case true =>
        obtain ⟨y, hy, hny⟩ := HPI.out.yes rfl
        have hlx := HLT.out y hy
        have hfx : x.name ≠ f.name := fun e => hny (e ▸ hlx)
        have q1 := text_no hfx
        have q2 : ((bs x.name).toList != (bs f.name).toList) = true := by rw [bne, q1]; rfl
        have HF2 : Hid (PutI f L true (i + 1) ∧ A ++ [x] = PutA f L true (i + 1)) := Lib.hid ⟨⟨fun h => (by cases h), fun _ => ⟨y, by rw [HT.out]; exact List.mem_append_left _ hy, hny⟩⟩, by
          show _ = ins f (L.take (i + 1))
          rw [HT.out, ins_past ⟨y, hy, hny⟩, ← HAA.out]
          rfl⟩
        clear hy hny hlx hfx
        have a0 := hP.dsk.c 0 rfl
        have t0 := hP.fil.c 0 rfl
        have t1 := hP.fil.c 1 rfl
        have t2 := hP.fil.c 2 rfl
        have t3 := hP.fil.c 3 rfl
        have x0 := hP.inn.c0
        have x1 := hP.inn.c1
        have x2 := hP.inn.c2
        have x3 := hP.inn.c3
        have o0 := hP.out.self.c 0 rfl
        have hB := HB.out
        go_upto_region 6 with fail
        go_quiet (fail)
        have h1 := hP.drewN nq
        have hB1 := hB.trans (below_drewN3 (b0 + 1 + 1 + 1) wr nq)
        generalize wr.drewN nq = w1 at h1 hB1 ⊢
        clear a0 t0 t1 t2 t3 x0 x1 x2 x3 o0
        clear hP hB
        have a0b := h1.dsk.c 0 rfl
        have t0b := h1.fil.c 0 rfl
        have t1b := h1.fil.c 1 rfl
        have t2b := h1.fil.c 2 rfl
        have t3b := h1.fil.c 3 rfl
        have x0b := h1.inn.c0
        have x1b := h1.inn.c1
        have x2b := h1.inn.c2
        have x3b := h1.inn.c3
        have o0b := h1.out.self.c 0 rfl
        go_upto_region 9 with fail
        go_quiet (fail)
        have h2 := h1.drewN nq
        have hB2 := hB1.trans (below_drewN3 (b0 + 1 + 1 + 1) w1 nq)
        generalize w1.drewN nq = w2 at h2 hB2 ⊢
        clear a0b t0b t1b t2b t3b x0b x1b x2b x3b o0b
        clear h1 hB1
        have a0c := h2.dsk.c 0 rfl
        have t0c := h2.fil.c 0 rfl
        have t1c := h2.fil.c 1 rfl
        have t2c := h2.fil.c 2 rfl
        have t3c := h2.fil.c 3 rfl
        have x0c := h2.inn.c0
        have x1c := h2.inn.c1
        have x2c := h2.inn.c2
        have x3c := h2.inn.c3
        have o0c := h2.out.self.c 0 rfl
        have HP2 := Lib.hid h2
        have HB2 := Lib.hid hB2
        clear h2 hB2
        go_upto_region 10 with fail
        have HD := Lib.hid (HP2.out.drew)
        have o2 : (w2.alloc (.cells #[.string (bs x.name), .string (bs x.s), .int .i64 (x.lasts : Int), .bool x.stays] 71)).drew.cell? ⟨b0 + 1 + 1 + 1, 0, none⟩ = some (.slice qo m capo) := (HD.out.out.self.alloc (.cells #[.string (bs x.name), .string (bs x.s), .int .i64 (x.lasts : Int), .bool x.stays] 71)).c 0 rfl
        have HS : Hid (b0 + 1 + 1 + 1 < w2.heap.size) := Lib.hid HP2.out.out.self.lt
        go_region_law (refine step_append_lies _ rfl (.tmp 49) (.tmp 55) 26 rfl (b0 + 1 + 1 + 1 + 1) 71 i0 _ 4 48 Try.underlying26 hi0 hz0 hz1 hz2 rfl (by decide) (.slice qo m capo) (m) (fls A) rfl (by have h1 := (HD.out.out.row.alloc (.cells #[.string (bs x.name), .string (bs x.s), .int .i64 (x.lasts : Int), .bool x.stays] 71)); unfold Files at h1; rw [← HD.out.out.len] at h1; exact h1) ⟨w2.heap.size, 0, none⟩ 1 1 (fcells x) rfl rfl (news_of (w := w2.drew) x w2.heap.size rfl) (fcells_one x) (by decide) (by unfold maxLen; omega) (by omega) (by have := HS.out; simp; omega) _ rfl ?_; intro g cap2 w3 hown hgr hat hlt3; obtain ⟨p1, p2, p3⟩ := HD.out.out.put x hown hgr; have o3 := p1.c 0 rfl; have f3 := p1.f 0; have HO3 := Lib.hid p2; have HB3 := Lib.hid (Below.trans (below_drew _ w2) p3); clear p1 p2 p3 hown hgr hat)
        all_goals (go_wp2_with fail)
        all_goals
          refine ⟨⟨true, i + 1, some ⟨g, 0, none⟩, m + 1, cap2, by omega, by simp, by simp, Lib.hid HF2.out.1, ?_, Lib.hid (by have := HM.out; omega), Lib.hid (HB2.out.trans HB3.out)⟩, ?_⟩
          · rw [← HF2.out.2]; exact HO3
          · simp only [intOf]
            omega
    · obtain rfl : i = N := by omega
      have hT : L.take i = L := List.take_of_length_le (by rw [HN.out]; exact Nat.le_refl _)
      have HT := Lib.hid hT
      have HD0 : Hid (Blk wr b0 [.slice q i cap, .int .i64 fuse, .bool down] 28) := Lib.hid (HA0.out.below HB.out (by omega))
      have HD1 : Hid (Blk wr (b0 + 1) (fcells f) 71) := Lib.hid (HA1.out.below HB.out (by omega))
      have HD2 : Hid (Blk wr (b0 + 1 + 1) [.slice none 0 0, .int .i64 0, .bool false] 28) := Lib.hid (HA2.out.below HB.out (by omega))
      have a0 := HD0.out.c 0 rfl
      have t0 := HD1.out.c 0 rfl
      have t1 := HD1.out.c 1 rfl
      have t2 := HD1.out.c 2 rfl
      have t3 := HD1.out.c 3 rfl
      obtain ⟨A, hA⟩ : ∃ A, PutA f L dn i = A := ⟨_, rfl⟩
      rw [hA] at HO
      have HAA := Lib.hid hA
      have o0 := HO.out.self.c 0 rfl
      have o1 := HO.out.self.c 1 rfl
      have o2 := HO.out.self.c 2 rfl
      have hml : m ≤ 2000000 := by have := HM.out; omega
      clear hT hA
      cases dn
      case false =>
        have hrow1 := (HO.out.row.alloc (.cells #[.string (bs f.name), .string (bs f.s), .int .i64 (f.lasts : Int), .bool f.stays] 71))
        unfold Files at hrow1
        rw [← HO.out.len] at hrow1
        have ob1 := (HO.out.self.alloc (.cells #[.string (bs f.name), .string (bs f.s), .int .i64 (f.lasts : Int), .bool f.stays] 71)).c 0 rfl
        have hsz1 := HO.out.self.lt
        have HR1 := Lib.hid hrow1
        have HX : Hid (A ++ [f] = ins f L) := Lib.hid (by
          have h1 := HPI.out.no rfl
          rw [HT.out] at h1
          rw [← HAA.out, ins_all h1]
          show L.take i ++ [f] = _
          rw [HT.out])
        clear hrow1
        go_wp2_with (at_builtin; refine wpList_append_lies _ rfl (.tmp 61) (.tmp 63) 26 rfl (b0 + 1 + 1 + 1 + 1) 71 i0 _ 4 48 Try.underlying26 hi0 hz0 hz1 hz2 rfl (by decide) (.slice qo m capo) m (fls A) rfl HR1.out ⟨wr.heap.size, 0, none⟩ 1 1 (fcells f) rfl rfl (news_of (w := wr) f wr.heap.size rfl) (fcells_one f) (by decide) (by unfold maxLen; omega) (by omega) (by simp; omega) _ rfl ?_)
        intro g cap2 w3 hown hgr hat hlt3
        obtain ⟨p1, p2, p3⟩ := HO.out.put f hown hgr
        have o3 := p1.c 0 rfl
        have f3 := p1.f 0
        have HP2 := Lib.hid p2
        have HB2 := Lib.hid p3
        clear p1 p2 p3 hown hgr hat ob1 hsz1 a0 t0 t1 t2 t3 o0 o1 o2
        go_upto_region 13 with fail
        have h2 := HP2.out
        have hB2 := HB2.out
        clear HP2 HB2 o3 f3
        generalize w3.setCell ⟨b0 + 1 + 1 + 1, 0, none⟩ (.slice (some ⟨g, 0, none⟩) (m + 1) cap2) = wf at h2 hB2 ⊢
        have hbf := HD2.out.below hB2 (by omega)
        have HWB := Lib.hid (HBB.out.trans ((HB.out.trans hB2).mono (show b0 ≤ b0 + 1 + 1 + 1 by omega)))
        have HRF := Lib.hid h2.row
        rw [HX.out] at HRF
        have y0 := h2.self.c 0 rfl
        have y1 := h2.self.c 1 rfl
        have y2 := h2.self.c 2 rfl
        have HBF := Lib.hid hbf
        have z0 := hbf.c 0 rfl
        have z1 := hbf.c 1 rfl
        have z2 := hbf.c 2 rfl
        have k0 := hbf.f 0
        have k1 := hbf.f 1
        have k2 := hbf.f 2
        clear h2 hB2 hbf
        go_wp2_with fail
        obtain ⟨e1, e2, e3⟩ := fin28 (fuse := fuse) (down := down) HBF.out HRF.out HWB.out (show b0 ≤ b0 + 1 + 1 by omega) (by omega) HB0.out
        exact bodyPost_ret (v := .agg #[.slice (some ⟨g, 0, none⟩) (m + 1) cap2, .int .i64 fuse, .bool down]) (ret28 rfl rfl e1) rfl ⟨_, rfl, e2, e3⟩
      case true =>
        have HRF : Hid (Files wr (b0 + 1 + 1 + 1 + 1) (.slice qo m capo) (ins f L)) := Lib.hid (by
          have h1 := HO.out.row
          rw [← HAA.out] at h1
          change Files wr _ _ (ins f (L.take i)) at h1
          rw [HT.out] at h1
          exact h1)
        have HWB := Lib.hid (HBB.out.trans (HB.out.mono (show b0 ≤ b0 + 1 + 1 + 1 by omega)))
        have z0 := HD2.out.c 0 rfl
        have z1 := HD2.out.c 1 rfl
        have z2 := HD2.out.c 2 rfl
        have k0 := HD2.out.f 0
        have k1 := HD2.out.f 1
        have k2 := HD2.out.f 2
        go_wp2_with fail
        obtain ⟨e1, e2, e3⟩ := fin28 (fuse := fuse) (down := down) HD2.out HRF.out HWB.out (show b0 ≤ b0 + 1 + 1 by omega) (by omega) HB0.out
        exact bodyPost_ret (v := .agg #[.slice qo m capo, .int .i64 fuse, .bool down]) (ret28 rfl rfl e1) rfl ⟨_, rfl, e2, e3⟩
end Go.Proofs.Ytfkefppabjbbdaa
