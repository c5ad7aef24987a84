/- The program's Copy. -/
import Derived.Test.YtfkefppabjbbdaaT
import Derived.Deep.CutRange
import Derived.BigRegion
import Derived.Deep.RegionHeld3
namespace Go.Proofs.Ytfkefppabjbbdaa
open Go.RowKit Go.Maps Go.Sort
set_option linter.unusedVariables false
theorem make_hint (n : Int) (w : World) : (Instr.makeMap 72 (some (.int .i64 n))).run Try.prog w = .ok (.map (some w.heap.size)) (w.alloc (.map #[] 0)) := by
  simp [Instr.makeMap, run_underlying Try.underlying72, asInt, newObj, Result.andThen]
  rfl
/-- What of a copy is there when these are still to come. -/
def CopyInv (left : Lit → Bool) (E E2 : List Ent) : Prop := ∀ n, (getK Ent.k n E2).map Ent.f = if left (.string n) = true then none else (getK Ent.k n E).map Ent.f
theorem copy_start (E : List Ent) : CopyInv (Maps.has (mapOf E)) E [] := by
  intro n
  rw [has_mapOf]
  cases hg : getK Ent.k n E with
  | none => rfl
  | some x => rfl
theorem getE_same {x : Ent} {E : List Ent} (hs : Sorted Ent.k E) : getK Ent.k x.k (insK Ent.k x E) = some x := getK_mem (sorted_insK hs) ((mem_insK hs).2 (.inl rfl))
theorem getE_other {x : Ent} {E : List Ent} (hs : Sorted Ent.k E) {n : List UInt8} (h : n ≠ x.k) : getK Ent.k n (insK Ent.k x E) = getK Ent.k n E := by
  cases hg : getK Ent.k n E with
  | some g =>
    obtain ⟨h1, h2⟩ := getK_some hg
    rw [← h2]
    exact getK_mem (sorted_insK hs) ((mem_insK hs).2 (.inr ⟨h1, by rw [h2]; exact h⟩))
  | none =>
    cases hg' : getK Ent.k n (insK Ent.k x E) with
    | none => rfl
    | some g =>
      obtain ⟨h1, h2⟩ := getK_some hg'
      rcases (mem_insK hs).1 h1 with rfl | ⟨h3, _⟩
      · exact absurd h2.symm h
      · exact absurd h2 (getK_none hg g h3)
theorem copy_step {left : Lit → Bool} {E E2 : List Ent} (h : CopyInv left E E2) (hs : Sorted Ent.k E2) {x y : Ent} (hx : getK Ent.k x.k E = some x) (hy : y.f = x.f) : CopyInv (fun z => left z && !z.sameKey (.string x.k)) E (insK Ent.k y E2) := by
  intro n
  have hk : y.k = x.k := by show y.f.name = x.f.name; rw [hy]
  by_cases hn : n = x.k
  · have e1 : (left (.string n) && !(Lit.string n).sameKey (.string x.k)) = false := by rw [same_eq, hn]; simp
    have e2 : getK Ent.k n (insK Ent.k y E2) = some y := by
      have := getE_same (x := y) hs
      rw [hk, ← hn] at this
      exact this
    show _ = if (left (.string n) && !(Lit.string n).sameKey (.string x.k)) = true then none else _
    rw [e2, e1, hn, hx]
    simp [hy]
  · have e1 : (left (.string n) && !(Lit.string n).sameKey (.string x.k)) = left (.string n) := by rw [same_eq]; simp [hn]
    show _ = if (left (.string n) && !(Lit.string n).sameKey (.string x.k)) = true then none else _
    rw [getE_other hs (by rw [hk]; exact hn), e1]
    exact h n
theorem sorted_ext : ∀ {A B : List Fl}, Sorted Fl.name A → Sorted Fl.name B → (∀ n, get n A = get n B) → A = B
  | [], [], _, _, _ => rfl
  | [], y :: B, _, hb, h => by
    have := h y.name
    have e : get y.name (y :: B) = some y := getK_mem hb (List.mem_cons.2 (.inl rfl))
    rw [e] at this
    cases this
  | x :: A, [], ha, _, h => by
    have := h x.name
    have e : get x.name (x :: A) = some x := getK_mem ha (List.mem_cons.2 (.inl rfl))
    rw [e] at this
    cases this
  | x :: A, y :: B, ha, hb, h => by
    obtain ⟨a1, a2⟩ := List.pairwise_cons.1 ha
    obtain ⟨b1, b2⟩ := List.pairwise_cons.1 hb
    have h1 : get x.name (y :: B) = some x := by rw [← h]; exact getK_mem ha (List.mem_cons.2 (.inl rfl))
    have h2 : get y.name (x :: A) = some y := by rw [h]; exact getK_mem hb (List.mem_cons.2 (.inl rfl))
    have e : x = y := by
      rcases List.mem_cons.1 (getK_some h1).1 with e | m1
      · exact e
      · rcases List.mem_cons.1 (getK_some h2).1 with e | m2
        · exact e.symm
        · exact absurd (lt_tr (a1 y m2) (b1 x m1)) (lt_irr _)
    subst e
    rw [sorted_ext a2 b2 (fun n => ?_)]
    have hn := h n
    by_cases hx : x.name = n
    · have q1 : get n A = none := by
        cases hg : get n A with
        | none => rfl
        | some g =>
          obtain ⟨m1, m2⟩ := getK_some hg
          have := a1 g m1
          rw [m2, hx] at this
          exact absurd this (lt_irr _)
      have q2 : get n B = none := by
        cases hg : get n B with
        | none => rfl
        | some g =>
          obtain ⟨m1, m2⟩ := getK_some hg
          have := b1 g m1
          rw [m2, hx] at this
          exact absurd this (lt_irr _)
      rw [q1, q2]
    · have q1 : get n (x :: A) = get n A := by show List.find? _ (x :: A) = _; rw [List.find?_cons]; simp [hx]; rfl
      have q2 : get n (x :: B) = get n B := by show List.find? _ (x :: B) = _; rw [List.find?_cons]; simp [hx]; rfl
      rw [q1, q2] at hn
      exact hn
theorem copy_end {left : Lit → Bool} {E E2 : List Ent} (h : CopyInv left E E2) (h1 : Sorted Ent.k E) (h2 : Sorted Ent.k E2) (hl : ∀ z, left z = false) : E2.map Ent.f = E.map Ent.f := by
  refine sorted_ext (h2.map (k' := Fl.name) (fun _ => rfl)) (h1.map (k' := Fl.name) (fun _ => rfl)) (fun n => ?_)
  have := h n
  rw [hl] at this
  have e : ∀ X : List Ent, get n (X.map Ent.f) = (getK Ent.k n X).map Ent.f := fun X => (getK_map (k := Ent.k) (k' := Fl.name) (g := Ent.f) (fun _ => rfl) n X).symm
  rw [e, e, this]
  simp
theorem insE_len {x : Ent} {E : List Ent} (hs : Sorted Ent.k E) : (insK Ent.k x E).length ≤ E.length + 1 := by
  have h1 := (insK_perm (x := x) hs).length_eq
  have h2 : (delK Ent.k x.k E).length ≤ E.length := List.length_filter_le _ _
  rw [h1, List.length_cons]
  omega
theorem at_in {E : List Ent} {n : List UInt8} {y : DataW Unit} (h : ∀ zd, (mapOf E).atKey (.string n) zd = y) : ∃ x, getK Ent.k n E = some x ∧ y = .lit (.int .i64 x.blk) := by
  cases hg : getK Ent.k n E with
  | none =>
    have h1 := h .nil
    have h2 := h (.lit (.int .i64 0))
    rw [at_mapOf, hg] at h1 h2
    rw [← h1] at h2
    cases h2
  | some x =>
    have h1 := h .nil
    rw [at_mapOf, hg] at h1
    exact ⟨x, rfl, h1.symm⟩
theorem DiskM.drew {w : World} {F : Nat → Prop} {d B : Nat} {E : List Ent} {u fuse : Int} {down : Bool} (h : DiskM w F d B E u fuse down) : DiskM w.drew F d B E u fuse down := h.quiet (grown_drew (World.grownBy.refl w none))
theorem Below.dropped {B : Nat} {w w' : World} (h : Below B w w') : Below B w w'.drew := ⟨h.os, h.tape, h.output, h.size, h.block⟩
/-- A file that is put into a copy. -/
theorem copy_put {w0 w1 w3 : World} {nb it : Nat} {E2 : List Ent} {u fuse : Int} {down : Bool} {f : Fl} {v : Value} (h : DiskM w1 (fun i => nb ≤ i ∧ i ≠ it) (nb + 1) nb E2 u fuse down) (ho : OwnB w1 0 v f.s) (hv : ∀ g, v.ownBlock = some g → nb ≤ g ∧ g ≠ it ∧ w0.heap.size ≤ g)
    (hl : ∀ e ∈ E2, ∀ g, e.v.ownBlock = some g → g < w0.heap.size) (hs : it < w1.heap.size) (hn : nb ≤ w1.heap.size) (hg : (w1.alloc (.cells #[v, .int .i64 f.lasts, .bool f.stays] 68)).grownBy w3 (some nb))
    (hm : w3.ownsMap Try.prog 9 relem nb (E2.length + 1) ((mapOf E2).put (.string f.name) (.lit (.int .i64 w1.heap.size)))) :
    DiskM w3 (fun i => nb ≤ i ∧ i ≠ it) (nb + 1) nb (insK Ent.k ⟨f, w1.heap.size, v⟩ E2) u fuse down := by
  refine (h.alloc (.cells #[v, .int .i64 f.lasts, .bool f.stays] 68)).put (x := ⟨f, w1.heap.size, v⟩) ⟨Blk.at rfl [_, _, _] 68, ho.alloc _, ⟨hn, by show w1.heap.size ≠ it; omega⟩, fun g hg' => ⟨(hv g hg').1, (hv g hg').2.1⟩⟩ hg hm (fun y hy _ => ⟨?_, fun g h1 h2 => ?_⟩)
  · have := (h.each y hy).cells.lt
    show w1.heap.size ≠ y.blk
    omega
  · have := hl y hy g h2
    have := (hv g h1).2.2
    omega
theorem own_lt2 {w : World} {F : Nat → Prop} {d B : Nat} {E : List Ent} {u fuse : Int} {down : Bool} (h : DiskM w F d B E u fuse down) : ∀ e ∈ E, ∀ g, e.v.ownBlock = some g → g < w.heap.size := fun e he g hg => by
  obtain ⟨cur, hh⟩ := own_blk (h.each e he).row hg
  exact lt_of_block hh
set_option maxRecDepth 100000 in
set_option maxHeartbeats 4000000 in
theorem copy_try {w : World} {F : Nat → Prop} {d B : Nat} {E : List Ent} {u fuse : Int} {down : Bool} (h : DiskM w F d B E u fuse down) (hl : E.length ≤ 1000000) (hln : ∀ e ∈ E, e.f.s.length ≤ 1000000000) (hnm : ∀ e ∈ E, e.f.name.length ≤ 1000000) :
    Calls Try.prog 19 #[.pointer (some ⟨d, 0, none⟩)] w fun e w' => ∃ c B2 E2, e = .returned (.pointer (some ⟨c, 0, none⟩)) ∧ DiskM w' (fun i => w.heap.size ≤ i) c B2 E2 u fuse down ∧ E2.map Ent.f = E.map Ent.f ∧ Below w.heap.size w w' := by
  have hlen : ∀ ty, (Builtin.len_ #[72] ty #[.map (some B)]).run Try.prog w.drew = .ok (.int .i64 E.length) w.drew := fun ty => by
    have hm1 : DMap w.drew B E := h.map
    have := World.ownsMap.len hm1 Try.underlying72 ty
    rwa [size_mapOf] at this
  have hmk := make_hint
  have c0 := h.self.c 0 rfl
  have c1 := h.self.c 1 rfl
  have c2 := h.self.c 2 rfl
  have c3 := h.self.c 3 rfl
  have HH := Lib.hid h
  have HL := Lib.hid hl
  have HLN := Lib.hid hln
  have HNM := Lib.hid hnm
  have hd := h.self.lt
  clear h hl hln hnm
  go_enter Try.func19, Try.ntmps19
  go_wp2_with fail
  go_region
  have hM0 : DiskM ((w.alloc (.map #[] 0)).alloc (.cells #[.map (some w.heap.size), .int .i64 u, .int .i64 fuse, .bool down] 74)).drew (fun i => w.heap.size ≤ i ∧ i ≠ w.heap.size + 2) (w.heap.size + 1) w.heap.size [] u fuse down :=
    ⟨(Blk.at (by simp) [_, _, _, _] 74).drew, (World.ownsMap_made w Try.prog 9 relem).alloc _, by simp, List.Pairwise.nil, by simp, by simp, List.Pairwise.nil⟩
  have hB0 : Below w.heap.size w ((w.alloc (.map #[] 0)).alloc (.cells #[.map (some w.heap.size), .int .i64 u, .int .i64 fuse, .bool down] 74)).drew := Below.dropped (((Below.refl _ w).alloc (Nat.le_refl _) _).alloc (by simp) _)
  have hS0 : ((w.alloc (.map #[] 0)).alloc (.cells #[.map (some w.heap.size), .int .i64 u, .int .i64 fuse, .bool down] 74)).drew.heap.size = w.heap.size + 2 := by show ((w.alloc _).alloc _).heap.size = _; simp
  revert hM0 hB0 hS0
  generalize ((w.alloc (.map #[] 0)).alloc (.cells #[.map (some w.heap.size), .int .i64 u, .int .i64 fuse, .bool down] 74)).drew = w1
  intro hM0 hB0 hS0
  have hD0 := HH.out.below hB0
  have HM0 := Lib.hid hM0
  have HB0 := Lib.hid hB0
  have HS0 := Lib.hid hS0
  have HD0 := Lib.hid hD0
  have d0 := hD0.self.c 0 rfl
  have hown := hD0.map
  obtain ⟨nb, hnb⟩ : ∃ nb, w.heap.size = nb := ⟨_, rfl⟩
  rw [hnb] at HM0 HB0 HS0 hd
  rw [hnb]
  have HNB := Lib.hid hnb
  clear hM0 hB0 hS0 hD0 hlen hmk c0 c1 c2 c3 hnb
  go_wp2_with (at_range; refine wpList_range_own _ rfl _ 72 rfl 9 63 law9 Try.underlying72 relem B E.length (mapOf E) rfl hown ?_; intro w2 hrg0 hg0 hs0)
  have hbl := World.ownsMap.lt HH.out.map
  have HBL : Hid (B < nb) := Lib.hid (by have := HNB.out; omega)
  clear hbl d0
  go_frame
  go_loopw [] (fun wr => ∃ (left : Lit → Bool) (cnt : Nat) (E2 : List Ent), wr.ranges Try.prog 9 relem B w1.heap.size E.length (mapOf E) left cnt ∧ Hid (DiskM wr (fun i => nb ≤ i ∧ i ≠ nb + 2) (nb + 1) nb E2 u fuse down) ∧ Hid (CopyInv left E E2) ∧ Hid (E2.length + cnt ≤ E.length) ∧ Hid (Below nb w wr) ∧ Hid (nb + 3 ≤ wr.heap.size))
    (fun wr => wr.rangeLeft B w1.heap.size)
  case atStart =>
    exact ⟨_, _, [], hrg0, Lib.hid (HM0.out.quiet hg0), Lib.hid (copy_start E), Lib.hid (by rw [size_mapOf]; simp), Lib.hid (HB0.out.grown hg0 (by have := HS0.out; omega) (fun j hj => by cases hj)), Lib.hid (by rw [hs0, HS0.out]; omega)⟩
  case round =>
    obtain ⟨left, cnt, E2, hrg, HM, HC, HLE, HB, HS⟩ := hrel
    go_wp2_with (first
      | (at_next; refine wpList_next_ranges _ rfl _ rfl 9 law9 relem encStr mkE inv9 invE B w1.heap.size E.length _ _ _ rfl hrg ?_ ?_)
      | fail)
    · intro hc0 hl0
      go_wp2_with fail
      go_ret
      have HB' := HB.out
      rw [← HNB.out] at HB'
      exact ⟨_, _, E2, rfl, HM.out.mono (fun i hi _ => by rw [HNB.out]; exact hi.1), copy_end HC.out HH.out.sorted HM.out.sorted hl0, HB'⟩
    · intro x c kl yd yp wy cnt2 hkey hlk hv hat hrg2 hlt hg2 hs2 hen
      obtain ⟨x', ex, rfl, _⟩ := Maps.keyOf_str Try.underlying9 hkey
      obtain rfl : x = x' := encStr_inj ex
      obtain ⟨⟨xf, xb, xv⟩, hxg, rfl⟩ := at_in hat
      have em := relem_at hv
      rw [em] at hen ⊢
      have hBy : Below nb w wy := HB.out.grown hg2 (by have := HB.out.size; have := HNB.out; have := HS.out; omega) (fun j hj => by cases hj; have := HS0.out; omega)
      have hDy := HH.out.below (by rw [HNB.out]; exact hBy)
      have hMy : DiskM wy (fun i => nb ≤ i ∧ i ≠ nb + 2) (nb + 1) nb E2 u fuse down := HM.out.far (G := fun i => i = nb + 2) ((Kept.refl _ wr).grown hg2 (fun j hj => by cases hj; exact .inr HS0.out)) (fun i hi _ e => hi.2 e)
      have hxm := (getK_some hxg).1
      have hxn : xf.name = x := (getK_some hxg).2
      subst hxn
      have hxe := hDy.each _ hxm
      obtain ⟨q, cap, hxv⟩ := hxe.row.len
      simp only at hxv
      have hcop := copied_any (w := wy.drew) (l := xf.s) (HLN.out _ hxm) ((Seen.own hxe.row).drew)
      obtain ⟨n, hn⟩ : ∃ n, xf.s.length = n := ⟨_, rfl⟩
      obtain ⟨la, hla⟩ : ∃ la : Nat, xf.lasts = la := ⟨_, rfl⟩
      obtain ⟨st, hst⟩ : ∃ st, xf.stays = st := ⟨_, rfl⟩
      have hcl := hxe.cells
      rw [hla, hst] at hcl
      rw [hn] at hxv
      subst hxv
      have hxlt := hcl.lt
      have x0 := hcl.c 0 rfl
      have x1 := hcl.c 1 rfl
      have x2 := hcl.c 2 rfl
      have m0 := hMy.self.c 0 rfl
      have HCOP := Lib.hid hcop
      have HMY := Lib.hid hMy
      have HBY := Lib.hid hBy
      have HCL := Lib.hid hcl
      have HN := Lib.hid hn
      have HLA := Lib.hid hla
      have HST := Lib.hid hst
      have HXG := Lib.hid hxg
      have HSY : Hid (nb + 3 ≤ wy.heap.size) := Lib.hid (by have := HS.out; omega)
      have HLT := Lib.hid hlt
      have HLE2 : Hid (E2.length + 1 + cnt2 ≤ E.length) := Lib.hid (by have := HLE.out; omega)
      have HRG := Lib.hid hrg2
      clear hDy hMy hBy hxm hxe hcop hn hla hst hcl hxg hat hs2 hlt hg2 hlk hkey HB HM HS ex hrg2
      have HEL : Hid (E2.length < maxLen) := Lib.hid (by have := HLE.out; have := HL.out; unfold maxLen; omega)
      have HXL : Hid (xf.name.length ≤ maxLen) := Lib.hid (by assumption)
      have hkey9 : ∀ (x : List UInt8), x.length ≤ maxLen → keyOf Try.prog 9 (encStr x) = some (.string x) := fun x hx => key9 hx
      go_upto_region 5 with fail
      go_region_held3 (fun w' => w'.cell? ⟨nb + 1, 0, none⟩ = some (.map (some nb)) ∧ w'.cell? ⟨xb, 0, none⟩ = some (.slice q n cap) ∧ w'.cell? ⟨xb, 1, none⟩ = some (.int .i64 la) ∧ w'.cell? ⟨xb, 2, none⟩ = some (.bool st)) (go_keep)
        (first | (go_at_call 33; refine (HCOP.out).mono ?_; rintro e w3 ⟨v, rfl, hob, ⟨g, rfl⟩, hb3⟩; have b3 := HCL.out.drew.below hb3 HCL.out.lt; have y0 := b3.c 0 rfl; have y1 := b3.c 1 rfl; have y2 := b3.c 2 rfl; have HM3 := Lib.hid ((HMY.out.drew).below hb3); have m3 := HM3.out.self.c 0 rfl; have a3 := HM3.out.alloc (.cells #[.slice (some ⟨g, 0, none⟩) xf.s.length xf.s.length, .int .i64 la, .bool st] 68); have b4 := b3.alloc (.cells #[.slice (some ⟨g, 0, none⟩) xf.s.length xf.s.length, .int .i64 la, .bool st] 68); obtain ⟨w4, hrun4, hown4, hgr4⟩ := World.ownsMap.update a3.map law9 Try.underlying72 HEL.out (hkey9 xf.name HXL.out) (val := .pointer (some ⟨w3.heap.size, 0, none⟩)) (d := .lit (.int .i64 w3.heap.size)) (ps := []) rfl; have n0 := (a3.self.kept hgr4 (by simp)).c 0 rfl; have b5 := b4.kept hgr4 (fun e1 => b4.map a3.map (Option.some.inj e1)); have n1 := b5.c 0 rfl; have n2 := b5.c 1 rfl; have n3 := b5.c 2 rfl; have HR4 := Lib.hid (And.intro hown4 hgr4); clear b3 a3 b4 b5 hown4 hgr4))
      have hown4 := HR4.out.1
      have hgr4 := HR4.out.2
      go_wp2_with fail
      go_roundw
      case rel =>
        have r1 := ((HRG.out.kept (grown_drew (World.grownBy.refl wy none)) (by simp) (by simp)).kept (grown_below hb3) (by simp) (by simp)).alloc (.cells #[.slice (some ⟨g, 0, none⟩) xf.s.length xf.s.length, .int .i64 la, .bool st] 68)
        have r2 := r1.kept hgr4 (by have := HBL.out; simp; omega) (by have := HS0.out; simp; omega)
        have hsz : wy.heap.size ≤ w3.heap.size := hb3.size
        have p1 := copy_put (w0 := wy) (it := nb + 2) (f := xf) HM3.out (hob.mono (Nat.zero_le _)) (fun g' hg' => by
          have h1 := own_block hob g' hg'
          have h2 : wy.heap.size ≤ g' := h1
          have := HSY.out
          exact ⟨by omega, by omega, h2⟩) (own_lt2 HMY.out) (by have := HSY.out; omega) (by have := HSY.out; omega) (by rw [HLA.out, HST.out]; exact hgr4) hown4
        refine ⟨_, cnt2, _, r2, Lib.hid p1, Lib.hid (copy_step (x := ⟨xf, xb, .slice q n cap⟩) (y := ⟨xf, w3.heap.size, .slice (some ⟨g, 0, none⟩) xf.s.length xf.s.length⟩) HC.out HM3.out.sorted HXG.out rfl), Lib.hid ?_, Lib.hid ?_, Lib.hid ?_⟩
        · have := insE_len (x := ⟨xf, w3.heap.size, .slice (some ⟨g, 0, none⟩) xf.s.length xf.s.length⟩) HM3.out.sorted
          have := HLE2.out
          omega
        · exact (((Below.dropped HBY.out).trans (hb3.mono (by have := HSY.out; show nb ≤ wy.heap.size; omega))).alloc (by have := HSY.out; omega) _).grown hgr4 (by rw [World.size_alloc]; have := HNB.out; have := HSY.out; omega) (fun j hj => by cases hj; exact Nat.le_refl _)
        · have h1 := hgr4.size
          have h2 := HSY.out
          rw [World.size_alloc] at h1
          omega
      case measure =>
        have r1 := ((HRG.out.kept (grown_drew (World.grownBy.refl wy none)) (by simp) (by simp)).kept (grown_below hb3) (by simp) (by simp)).alloc (.cells #[.slice (some ⟨g, 0, none⟩) xf.s.length xf.s.length, .int .i64 la, .bool st] 68)
        have r2 := r1.kept hgr4 (by have := HBL.out; simp; omega) (by have := HS0.out; simp; omega)
        rw [r2.left_eq, hrg.left_eq]
        exact HLT.out
end Go.Proofs.Ytfkefppabjbbdaa
