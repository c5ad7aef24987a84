/- A disk in memory: what it is behind each thing that is done to its blocks. -/
import Derived.Test.YtfkefppabjbbdaaC
import Derived.Maps.AppendAt
namespace Go.Proofs.Ytfkefppabjbbdaa
open Go.RowKit Go.Maps
set_option linter.unusedVariables false
/-- A file's cells, and its bytes. -/
structure EntM (w : World) (F : Nat → Prop) (e : Ent) : Prop where
  cells : Blk w e.blk [e.v, .int .i64 (e.f.lasts : Int), .bool e.f.stays] 68
  row : OwnB w 0 e.v e.f.s
  fb : F e.blk
  fr : ∀ g, e.v.ownBlock = some g → F g
def Apart (x y : Ent) : Prop := x.blk ≠ y.blk ∧ ∀ g, x.v.ownBlock = some g → y.v.ownBlock ≠ some g
theorem Apart.symm {x y : Ent} (h : Apart x y) : Apart y x := ⟨fun e => h.1 e.symm, fun g h1 h2 => h.2 g h2 h1⟩
/-- A disk in memory. -/
structure DiskM (w : World) (F : Nat → Prop) (d B : Nat) (E : List Ent) (u fuse : Int) (down : Bool) : Prop where
  self : Blk w d [.map (some B), .int .i64 u, .int .i64 fuse, .bool down] 74
  map : DMap w B E
  each : ∀ e ∈ E, EntM w F e
  apart : E.Pairwise Apart
  fd : F d
  fB : F B
  sorted : Sorted Ent.k E
theorem own_blk {w : World} {base : Nat} {v : Value} {l : List UInt8} (h : OwnB w base v l) {g : Nat} (hg : v.ownBlock = some g) : ∃ cur, w.heap[g]? = some (.cells cur 5 (0, 0)) := by
  rcases h.2 with ⟨rfl, _⟩ | ⟨g', cap, cur, rfl, _, hh, _⟩
  · cases hg
  · cases hg; exact ⟨cur, hh⟩
theorem own_ne {w : World} {base : Nat} {v : Value} {l : List UInt8} (h : OwnB w base v l) {b : Nat} {cs : List Value} {t : TypeId} (hb : Blk w b cs t) (ht : t ≠ 5) : v.ownBlock ≠ some b := by
  intro hg
  obtain ⟨cur, hh⟩ := own_blk h hg
  unfold Blk at hb
  rw [hb] at hh
  cases hh
  exact ht rfl
theorem own_map {w : World} {base : Nat} {v : Value} {l : List UInt8} (h : OwnB w base v l) {B : Nat} {E : List Ent} (hB : DMap w B E) : v.ownBlock ≠ some B := by
  intro hg
  obtain ⟨cur, hh⟩ := own_blk h hg
  exact hB.notCells hh rfl
theorem Blk.map {w : World} {b : Nat} {cs : List Value} {t : TypeId} (h : Blk w b cs t) {B : Nat} {E : List Ent} (hB : DMap w B E) : b ≠ B := hB.notCells h
theorem EntM.kept {w w' : World} {F : Nat → Prop} {e : Ent} {row : Option Nat} (h : EntM w F e) (hg : w.grownBy w' row) (h1 : some e.blk ≠ row) (h2 : ∀ g, e.v.ownBlock = some g → some g ≠ row) : EntM w' F e :=
  ⟨h.cells.kept hg h1, World.ownsRow.kept h.row hg (by
    cases hv : e.v.ownBlock with
    | none => exact .inl rfl
    | some g => exact .inr (h2 g hv)), h.fb, h.fr⟩
theorem DMap.kept {w w' : World} {B : Nat} {E : List Ent} {row : Option Nat} (h : DMap w B E) (hg : w.grownBy w' row) (hr : some B ≠ row) : DMap w' B E := World.ownsMap.kept h hg hr
section
variable {w w' : World} {F : Nat → Prop} {d B : Nat} {E : List Ent} {u fuse : Int} {down : Bool}
theorem DiskM.quiet (h : DiskM w F d B E u fuse down) (hg : w.grownBy w' none) : DiskM w' F d B E u fuse down :=
  ⟨h.self.kept hg (by simp), h.map.kept hg (by simp), fun e he => (h.each e he).kept hg (by simp) (by simp), h.apart, h.fd, h.fB, h.sorted⟩
theorem DiskM.alloc (h : DiskM w F d B E u fuse down) (o : Obj) : DiskM (w.alloc o) F d B E u fuse down := h.quiet (World.grownBy_alloc w o none)
theorem grown_below {w w' : World} (h : Below w.heap.size w w') : w.grownBy w' none := ⟨h.os, h.tape, h.output, h.size, fun k hk _ => h.block k hk⟩
theorem DiskM.below (h : DiskM w F d B E u fuse down) (hb : Below w.heap.size w w') : DiskM w' F d B E u fuse down := h.quiet (grown_below hb)
theorem DiskM.mono {G : Nat → Prop} (h : DiskM w F d B E u fuse down) (hFG : ∀ i, F i → i < w.heap.size → G i) : DiskM w G d B E u fuse down :=
  ⟨h.self, h.map, fun e he => ⟨(h.each e he).cells, (h.each e he).row, hFG _ (h.each e he).fb (h.each e he).cells.lt, fun g hg => hFG g ((h.each e he).fr g hg) (by
    obtain ⟨cur, hh⟩ := own_blk (h.each e he).row hg
    exact lt_of_block hh)⟩, h.apart, hFG _ h.fd h.self.lt, hFG _ h.fB (World.ownsMap.lt h.map), h.sorted⟩
/-- What turns elsewhere leaves it as it is. -/
theorem DiskM.far (h : DiskM w F d B E u fuse down) {G : Nat → Prop} (hk : Kept G w w') (hFG : ∀ i, F i → i < w.heap.size → ¬ G i) : DiskM w' F d B E u fuse down := by
  have blk : ∀ i, F i → i < w.heap.size → w'.heap[i]? = w.heap[i]? := fun i hi hs => hk.block i hs (hFG i hi hs)
  refine ⟨by unfold Blk; rw [blk d h.fd h.self.lt]; exact h.self, ?_, fun e he => ⟨?_, ?_, (h.each e he).fb, (h.each e he).fr⟩, h.apart, h.fd, h.fB, h.sorted⟩
  · have hl := World.ownsMap.lt h.map
    obtain ⟨es, clock, hb, r⟩ := h.map
    exact ⟨es, clock, by rw [blk B h.fB hl]; exact hb, r⟩
  · unfold Blk; rw [blk _ (h.each e he).fb (h.each e he).cells.lt]; exact (h.each e he).cells
  · have ho := (h.each e he).row
    obtain ⟨h1, h2⟩ := ho
    refine ⟨h1, ?_⟩
    rcases h2 with h2 | ⟨g, cap, cur, hv, hg, hh, r⟩
    · exact .inl h2
    · exact .inr ⟨g, cap, cur, hv, hg, by rw [blk g ((h.each e he).fr g (by rw [hv]; rfl)) (lt_of_block hh)]; exact hh, r⟩
/-- A store into the disk's own cells. -/
theorem DiskM.own (h : DiskM w F d B E u fuse down) (hg : w.grownBy w' (some d)) {u' fuse' : Int} {down' : Bool} (hs : Blk w' d [.map (some B), .int .i64 u', .int .i64 fuse', .bool down'] 74) : DiskM w' F d B E u' fuse' down' :=
  ⟨hs, h.map.kept hg (fun e => h.self.map h.map (Option.some.inj e).symm), fun e he => (h.each e he).kept hg (fun e1 => (h.each e he).cells.ne h.self (by decide) (Option.some.inj e1)) (fun g hg' e1 => own_ne (h.each e he).row h.self (by decide) (by rw [hg', e1])),
    h.apart, h.fd, h.fB, h.sorted⟩
theorem DiskM.setUsed (h : DiskM w F d B E u fuse down) (u' : Int) : DiskM (w.setCell ⟨d, 1, none⟩ (.int .i64 u')) F d B E u' fuse down := h.own (grownBy_set w ⟨d, 1, none⟩ _) (h.self.set 1 _)
theorem DiskM.setFuse (h : DiskM w F d B E u fuse down) (f' : Int) : DiskM (w.setCell ⟨d, 2, none⟩ (.int .i64 f')) F d B E u f' down := h.own (grownBy_set w ⟨d, 2, none⟩ _) (h.self.set 2 _)
theorem DiskM.setDown (h : DiskM w F d B E u fuse down) (b : Bool) : DiskM (w.setCell ⟨d, 3, none⟩ (.bool b)) F d B E u fuse b := h.own (grownBy_set w ⟨d, 3, none⟩ _) (h.self.set 3 _)
theorem insK_perm {x : Ent} {E : List Ent} (hs : Sorted Ent.k E) : (insK Ent.k x E).Perm (x :: delK Ent.k x.k E) := by
  cases hg : getK Ent.k x.k E with
  | none => rw [delK_none (getK_none hg)]; exact insK_new (getK_none hg)
  | some e =>
    obtain ⟨he, hk⟩ := getK_some hg
    have h2 := delK_perm (sorted_insK (x := x) hs) ((mem_insK hs).2 (.inl rfl))
    have h3 : delK Ent.k x.k (insK Ent.k x E) = delK Ent.k x.k E := by
      rw [insK_old hs he hk]
      unfold delK
      clear hg h2 he hs
      induction E with
      | nil => rfl
      | cons z r ih =>
        rw [List.map_cons, List.filter_cons, List.filter_cons, ih]
        by_cases hz : z.k = x.k
        · simp [hz]
        · simp [hz]
    rw [h3] at h2
    exact h2
theorem apart_ins {x : Ent} (hs : Sorted Ent.k E) (ha : E.Pairwise Apart) (hx : ∀ y ∈ E, y.k ≠ x.k → Apart x y) : (insK Ent.k x E).Pairwise Apart := by
  refine ((insK_perm hs).pairwise_iff (fun {a b} h => Apart.symm h)).2 (List.pairwise_cons.2 ⟨fun y hy => ?_, ha.filter _⟩)
  obtain ⟨h1, h2⟩ := mem_delK.1 hy
  exact hx y h1 h2
/-- A file that is put into its place. -/
theorem DiskM.ins (h : DiskM w F d B E u fuse down) {x : Ent} {u' fuse' : Int} {down' : Bool} (hs : Blk w' d [.map (some B), .int .i64 u', .int .i64 fuse', .bool down'] 74) (hm : DMap w' B (insK Ent.k x E)) (hx : EntM w' F x)
    (hr : ∀ y ∈ E, y.k ≠ x.k → EntM w' F y) (ha : ∀ y ∈ E, y.k ≠ x.k → Apart x y) : DiskM w' F d B (insK Ent.k x E) u' fuse' down' :=
  ⟨hs, hm, fun e he => by
    rcases (mem_insK h.sorted).1 he with rfl | ⟨h1, h2⟩
    · exact hx
    · exact hr e h1 h2, apart_ins h.sorted h.apart ha, h.fd, h.fB, sorted_insK h.sorted⟩
theorem pairwise_mem {E : List Ent} (ha : E.Pairwise Apart) {x y : Ent} (hx : x ∈ E) (hy : y ∈ E) (hne : x.k ≠ y.k) : Apart x y := by
  induction ha with
  | nil => simp at hx
  | cons h1 h2 ih =>
    rcases List.mem_cons.1 hx with rfl | hx'
    · rcases List.mem_cons.1 hy with rfl | hy'
      · exact absurd rfl hne
      · exact h1 y hy'
    · rcases List.mem_cons.1 hy with rfl | hy'
      · exact (h1 x hx').symm
      · exact ih hx' hy'
/-- The map is the same where a file of that name and that block is there. -/
theorem map_old {e x : Ent} (hs : Sorted Ent.k E) (he : e ∈ E) (hk : x.f.name = e.f.name) (hb : x.blk = e.blk) : mapOf (insK Ent.k x E) = mapOf E ∧ (insK Ent.k x E).length = E.length := by
  have hk' : e.k = x.k := hk.symm
  refine ⟨?_, insK_old_len hs he hk'⟩
  unfold mapOf
  rw [insK_old hs he hk', List.map_map]
  congr 1
  apply List.map_congr_left
  intro y hy
  simp only [Function.comp]
  split
  · rename_i hyx
    have : y = e := sorted_inj hs hy he (hyx.trans hk'.symm)
    subst this
    unfold pairOf
    rw [hk, hb]
  · rfl
theorem DMap.old {e x : Ent} (h : DMap w B E) (hs : Sorted Ent.k E) (he : e ∈ E) (hk : x.f.name = e.f.name) (hb : x.blk = e.blk) : DMap w B (insK Ent.k x E) := by
  obtain ⟨h1, h2⟩ := map_old hs he hk hb
  unfold DMap
  rw [h1, h2]
  exact h
theorem Blk.keptF {w w' : World} {b : Nat} {cs : List Value} {t : TypeId} {G : Nat → Prop} (h : Blk w b cs t) (hk : Kept G w w') (hb : ¬ G b) : Blk w' b cs t := by
  unfold Blk; rw [hk.block b h.lt hb]; exact h
theorem DMap.keptF {G : Nat → Prop} (h : DMap w B E) (hk : Kept G w w') (hb : ¬ G B) : DMap w' B E := by
  have hl := World.ownsMap.lt h
  obtain ⟨es, clock, hh, r⟩ := h
  exact ⟨es, clock, by rw [hk.block B hl hb]; exact hh, r⟩
theorem OwnB.keptF {G : Nat → Prop} {base : Nat} {v : Value} {l : List UInt8} (h : OwnB w base v l) (hk : Kept G w w') (hv : ∀ g, v.ownBlock = some g → ¬ G g) : OwnB w' base v l := by
  obtain ⟨h1, h2⟩ := h
  refine ⟨h1, ?_⟩
  rcases h2 with h2 | ⟨g, cap, cur, e, hg, hh, r⟩
  · exact .inl h2
  · exact .inr ⟨g, cap, cur, e, hg, by rw [hk.block g (lt_of_block hh) (hv g (by rw [e]; rfl))]; exact hh, r⟩
theorem EntM.keptF {G : Nat → Prop} {e : Ent} (h : EntM w F e) (hk : Kept G w w') (h1 : ¬ G e.blk) (h2 : ∀ g, e.v.ownBlock = some g → ¬ G g) : EntM w' F e :=
  ⟨h.cells.keptF hk h1, h.row.keptF hk h2, h.fb, h.fr⟩
/-- A file's cells are written, or its bytes; all else is as it was. -/
theorem DiskM.renew (h : DiskM w F d B E u fuse down) {e x : Ent} (he : e ∈ E) (hk : x.f.name = e.f.name) (hb : x.blk = e.blk) (hg : Kept (fun i => i = e.blk ∨ e.v.ownBlock = some i) w w')
    (hx : EntM w' F x) (hv : ∀ g, x.v.ownBlock = some g → e.v.ownBlock = some g ∨ w.heap.size ≤ g) : DiskM w' F d B (insK Ent.k x E) u fuse down := by
  have hxe := h.each e he
  refine h.ins (h.self.keptF hg ?_) ((h.map.keptF hg ?_).old h.sorted he hk hb) hx (fun y hy hyk => ?_) (fun y hy hyk => ?_)
  · rintro (e1 | e1)
    · exact hxe.cells.ne h.self (by decide) e1.symm
    · exact own_ne hxe.row h.self (by decide) e1
  · rintro (e1 | e1)
    · exact hxe.cells.map h.map e1.symm
    · exact own_map hxe.row h.map e1
  · have hap := pairwise_mem h.apart he hy (fun e1 => hyk (e1.symm.trans hk.symm))
    refine (h.each y hy).keptF hg ?_ (fun g hyg => ?_)
    · rintro (e1 | e1)
      · exact hap.1 e1.symm
      · exact own_ne hxe.row (h.each y hy).cells (by decide) e1
    · rintro (e1 | e1)
      · exact own_ne (h.each y hy).row hxe.cells (by decide) (by rw [hyg, e1])
      · exact hap.2 g e1 hyg
  · have hap := pairwise_mem h.apart he hy (fun e1 => hyk (e1.symm.trans hk.symm))
    refine ⟨by rw [hb]; exact hap.1, fun g hxg hyg => ?_⟩
    rcases hv g hxg with ho | ho
    · exact hap.2 g ho hyg
    · obtain ⟨cur, hh⟩ := own_blk (h.each y hy).row hyg
      have := lt_of_block hh
      omega
/-- A file is taken out. -/
theorem DiskM.drop (h : DiskM w F d B E u fuse down) {n : List UInt8} (hg : w.grownBy w' (some B)) (hm : w'.ownsMap Try.prog 9 relem B E.length ((mapOf E).del (.string n))) : DiskM w' F d B (delK Ent.k n E) u fuse down := by
  rw [del_mapOf] at hm
  refine ⟨h.self.kept hg (fun e1 => h.self.map h.map (Option.some.inj e1)), tight hm, fun e he => ?_, h.apart.filter _, h.fd, h.fB, sorted_delK h.sorted⟩
  have he' := (mem_delK.1 he).1
  exact (h.each e he').kept hg (fun e1 => (h.each e he').cells.map h.map (Option.some.inj e1)) (fun g hg' e1 => own_map (h.each e he').row h.map (by rw [hg', e1]))
/-- A file is put into the map: a new block. -/
theorem DiskM.put (h : DiskM w F d B E u fuse down) {x : Ent} (hx : EntM w F x) (hg : w.grownBy w' (some B)) (hm : w'.ownsMap Try.prog 9 relem B (E.length + 1) ((mapOf E).put (.string x.f.name) (.lit (.int .i64 x.blk))))
    (ha : ∀ y ∈ E, y.k ≠ x.k → Apart x y) : DiskM w' F d B (insK Ent.k x E) u fuse down := by
  rw [put_mapOf h.sorted] at hm
  refine h.ins (h.self.kept hg (fun e1 => h.self.map h.map (Option.some.inj e1))) (tight hm) (hx.kept hg (fun e1 => hx.cells.map h.map (Option.some.inj e1)) (fun g hg' e1 => own_map hx.row h.map (by rw [hg', e1]))) (fun y hy _ => ?_) ha
  exact (h.each y hy).kept hg (fun e1 => (h.each y hy).cells.map h.map (Option.some.inj e1)) (fun g hg' e1 => own_map (h.each y hy).row h.map (by rw [hg', e1]))
end
end Go.Proofs.Ytfkefppabjbbdaa
