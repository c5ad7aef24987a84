/- The document's answer: a step. -/
import Derived.Test.YtfkefppabjbbdaaFd
namespace Go.Proofs.Ytfkefppabjbbdaa
open Go.RowKit Go.Maps
set_option linter.unusedVariables false
theorem mh_ask {k : Dk} {n : List UInt8} {m : Int} (h : ask k n ≠ 0) : mayHold k n m = ask k n := by unfold mayHold; rw [if_pos h]
theorem find_bad {k : Dk} {n : List UInt8} (h : ask k n ≠ 0) : find k n = ask k n := by unfold find; rw [if_pos h]
theorem st_bad {k : Dk} {n : List UInt8} (kind : Int) (s : List UInt8) (h : ask k n ≠ 0) : stE k kind n s = ask k n ∧ stD k kind n s = k := by
  have e1 : ∀ m, mayHold k n m ≠ 0 := fun m => by rw [mh_ask h]; exact h
  have e2 : find k n ≠ 0 := by rw [find_bad h]; exact h
  unfold stE stD appendE appendD removeE removeD syncE syncD replaceE replaceD
  constructor
  · rw [if_pos (e1 _), if_pos (e1 _), if_pos e2, mh_ask h, mh_ask h, find_bad h]
    simp
  · rw [if_pos (e1 _), if_pos (e1 _), if_pos e2, if_pos e2]
    simp
theorem tot_old {n : List UInt8} {L : List Fl} (hs : Sorted Fl.name L) : tot L = tot (del n L) + (old n L).s.length := by
  cases hg : get n L with
  | none =>
    rw [old_no hg]
    have := delK_none (k := Fl.name) (getK_none hg)
    show _ = tot (delK Fl.name n L) + 0
    rw [this]; rfl
  | some x =>
    rw [old_at hg]
    obtain ⟨h1, h2⟩ := getK_some hg
    have := tot_del hs h1
    rw [h2] at this
    omega
theorem find_ok {k : Dk} {n : List UInt8} (h : ask k n = 0) {x : Fl} (hg : get n k.L = some x) : find k n = 0 := by
  unfold find; rw [h]; simp only [ne_eq, not_true_eq_false, if_false]; rw [hg]; rfl
theorem find_miss {k : Dk} {n : List UInt8} (h : ask k n = 0) (hg : get n k.L = none) : find k n = 6 := by
  unfold find; rw [h]; simp only [ne_eq, not_true_eq_false, if_false]; rw [hg]; rfl
theorem hold_full {k : Dk} {n : List UInt8} (h : ask k n = 0) {m : Int} (hf : m > 4194304 - (tot k.L : Int) ∨ ((get n k.L).isNone = true ∧ k.L.length = 4096)) : mayHold k n m = 5 := by
  unfold mayHold; rw [h, if_neg (by simp), if_pos hf]
theorem hold_ok {k : Dk} {n : List UInt8} (h : ask k n = 0) {m : Int} (hf : ¬ (m > 4194304 - (tot k.L : Int) ∨ ((get n k.L).isNone = true ∧ k.L.length = 4096))) : mayHold k n m = 0 := by
  unfold mayHold; rw [h, if_neg (by simp), if_neg hf]
/-- What a step that is taken makes of the files. -/
def stepL (kind : Int) (n s : List UInt8) (f : Fl) (L : List Fl) : List Fl :=
  if kind = 1 then ins (addF f s) L else if kind = 2 then ins (lastF f) L else if kind = 3 then ins ⟨n, s, s.length, true⟩ L else del n L
/-- Is a step too much? -/
def fullN (kind : Int) (T S Z N : Nat) (none : Bool) : Prop := (kind = 1 ∨ kind = 3) ∧ (4194304 < (if kind = 1 then T + S + Z else T + S) ∨ (none = true ∧ 4096 ≤ N))
theorem st_miss {k : Dk} {n : List UInt8} (s : List UInt8) (h : ask k n = 0) (hg : get n k.L = none) {kind : Int} (hk : kind = 2 ∨ kind = 4) : stE k kind n s = 6 ∧ stD k kind n s = k := by
  have e := find_miss h hg
  rcases hk with rfl | rfl
  · show syncE k n = 6 ∧ syncD k n = k
    unfold syncE syncD; rw [e]; simp
  · show syncE k n = 6 ∧ removeD k n = k
    unfold syncE removeD; rw [e]; simp
theorem st_full {k : Dk} {n s : List UInt8} (hok : Ok k) (h : ask k n = 0) {kind : Int} (hf : fullN kind (tot (del n k.L)) s.length (old n k.L).s.length k.L.length (get n k.L).isNone) : stE k kind n s = 5 ∧ stD k kind n s = k := by
  have ht := tot_old (n := n) hok.sorted
  have hlen := hok.len
  obtain ⟨hk, hf⟩ := hf
  rcases hk with rfl | rfl
  · have e : mayHold k n s.length = 5 := hold_full h (by
      rcases hf with hf | ⟨h1, h2⟩
      · left; rw [if_pos rfl] at hf; omega
      · right; exact ⟨h1, by omega⟩)
    show appendE k n s = 5 ∧ appendD k n s = k
    unfold appendE appendD; rw [e]; simp
  · have e : mayHold k n (moreR k n s) = 5 := hold_full h (by
      rcases hf with hf | ⟨h1, h2⟩
      · left; rw [if_neg (by decide)] at hf; unfold moreR; omega
      · right; exact ⟨h1, by omega⟩)
    show replaceE k n s = 5 ∧ replaceD k n s = k
    unfold replaceE replaceD; rw [e]; simp
theorem st_do {k : Dk} {n s : List UInt8} (hok : Ok k) (h : ask k n = 0) {kind : Int} (hk : kind = 1 ∨ kind = 2 ∨ kind = 3 ∨ kind = 4) (hg : kind = 2 ∨ kind = 4 → (get n k.L).isSome = true) (hf : ¬ fullN kind (tot (del n k.L)) s.length (old n k.L).s.length k.L.length (get n k.L).isNone) :
    stE k kind n s = burnE k.fuse ∧ stD k kind n s = if k.fuse = 0 ∧ kind ≠ 1 then burn k else burn (withL k (stepL kind n s (old n k.L) k.L)) := by
  have ht := tot_old (n := n) hok.sorted
  have hlen := hok.len
  rcases hk with rfl | rfl | rfl | rfl
  · have e : mayHold k n s.length = 0 := hold_ok h (fun hc => hf ⟨.inl rfl, by
      rcases hc with hc | ⟨h1, h2⟩
      · left; rw [if_pos rfl]; omega
      · right; exact ⟨h1, by omega⟩⟩)
    show appendE k n s = _ ∧ appendD k n s = _
    unfold appendE appendD; rw [e]; simp [stepL]
  · obtain ⟨x, hx⟩ := Option.isSome_iff_exists.1 (hg (.inl rfl))
    have e := find_ok h hx
    show syncE k n = _ ∧ syncD k n = _
    unfold syncE syncD; rw [e]; simp [stepL]
  · have e : mayHold k n (moreR k n s) = 0 := hold_ok h (fun hc => hf ⟨.inr rfl, by
      rcases hc with hc | ⟨h1, h2⟩
      · left; rw [if_neg (by decide)]; unfold moreR at hc; omega
      · right; exact ⟨h1, by omega⟩⟩)
    show replaceE k n s = _ ∧ replaceD k n s = _
    unfold replaceE replaceD; rw [e]; simp [stepL]
  · obtain ⟨x, hx⟩ := Option.isSome_iff_exists.1 (hg (.inr rfl))
    have e := find_ok h hx
    show syncE k n = _ ∧ removeD k n = _
    unfold syncE removeD; rw [e]; simp [stepL]
/-- What a step tells and makes, in memory. -/
def StepTo (w : World) (k : Dk) (kind : Int) (n s : List UInt8) (e : Ending) (w' : World) : Prop :=
  ∃ v', e = .returned (.tuple #[.agg #[v', .int .i64 (stD k kind n s).fuse, .bool (stD k kind n s).down], .int .i64 (stE k kind n s : Nat)]) ∧ Files w' 0 v' (stD k kind n s).L ∧ Below w.heap.size w w'
set_option maxRecDepth 100000 in
theorem step_bad {w : World} {v : Value} {k : Dk} (h : Files w 0 v k.L) (kind : Int) (n s : List UInt8) (ha : ask k n ≠ 0) :
    Calls Try.prog 28 #[.agg #[v, .int .i64 k.fuse, .bool k.down], .int .i64 kind, .string (bs n), .string (bs s)] w (StepTo w k kind n s) := by
  obtain ⟨L, fuse, down⟩ := k
  obtain ⟨h1, h2⟩ := st_bad kind s ha
  have hto : ∀ (e : Ending) (w' : World) (v' : Value), e = .returned (.tuple #[.agg #[v', .int .i64 fuse, .bool down], .int .i64 (ask ⟨L, fuse, down⟩ n : Nat)]) → Files w' 0 v' L → Below w.heap.size w w' → StepTo w ⟨L, fuse, down⟩ kind n s e w' := fun e w' v' he hf hb => by
    refine ⟨v', ?_, ?_, hb⟩
    · rw [h1, h2]; exact he
    · rw [h2]; exact hf
  have HTO := Lib.hid hto
  clear h1 h2 hto
  simp only at h ⊢
  obtain ⟨q, cap, rfl⟩ := h.len
  have hsz := bs_size n
  obtain ⟨N, hN⟩ : ∃ N, n.length = N := ⟨_, rfl⟩
  rw [hN] at hsz
  have HE : Hid (Blk ((w.alloc (.cells #[.slice q L.length cap, .int .i64 fuse, .bool down] 28)).alloc (.cells #[.slice q L.length cap, .int .i64 fuse, .bool down] 28)) (w.heap.size + 1) [.slice q L.length cap, .int .i64 fuse, .bool down] 28 ∧ Files ((w.alloc (.cells #[.slice q L.length cap, .int .i64 fuse, .bool down] 28)).alloc (.cells #[.slice q L.length cap, .int .i64 fuse, .bool down] 28)) 0 (.slice q L.length cap) L ∧ Below w.heap.size w ((w.alloc (.cells #[.slice q L.length cap, .int .i64 fuse, .bool down] 28)).alloc (.cells #[.slice q L.length cap, .int .i64 fuse, .bool down] 28))) :=
    Lib.hid ⟨Blk.at (by simp) [_, _, _] 28, (h.alloc _).alloc _, ((Below.refl _ w).alloc (Nat.le_refl _) _).alloc (by simp) _⟩
  clear h
  cases down with
  | true =>
    have HA : Hid (ask ⟨L, fuse, true⟩ n = 8) := Lib.hid rfl
    clear ha hN
    go_enter Try.func28, Try.ntmps28
    go_wp2_with fail
    refine bodyPost_ret (v := .tuple #[.agg #[.slice q L.length cap, .int .i64 fuse, .bool true], .int .i64 8]) (ret28t rfl rfl rfl HE.out.1) rfl (HTO.out _ _ _ ?_ HE.out.2.1 HE.out.2.2)
    rw [HA.out]; rfl
  | false =>
    have hb : N < 1 ∨ 64 < N := by
      refine Decidable.byContradiction fun hc => ha ?_
      unfold ask
      rw [if_neg (by simp), hN, if_neg hc]
    have HA : Hid (ask ⟨L, fuse, false⟩ n = 1) := Lib.hid (by unfold ask; rw [if_neg (by simp), hN, if_pos hb])
    clear ha hN
    by_cases hb1 : N < 1
    · have g1 : decide ((N : Int) < 1) = true := by simp; omega
      clear hb
      go_enter Try.func28, Try.ntmps28
      go_wp2_with fail
      refine bodyPost_ret (v := .tuple #[.agg #[.slice q L.length cap, .int .i64 fuse, .bool false], .int .i64 1]) (ret28t rfl rfl rfl HE.out.1) rfl (HTO.out _ _ _ ?_ HE.out.2.1 HE.out.2.2)
      rw [HA.out]; rfl
    · have g1 : decide ((N : Int) < 1) = false := by simp; omega
      have g2 : decide ((64 : Int) < (N : Int)) = true := by simp; omega
      clear hb
      go_enter Try.func28, Try.ntmps28
      go_wp2_with fail
      refine bodyPost_ret (v := .tuple #[.agg #[.slice q L.length cap, .int .i64 fuse, .bool false], .int .i64 1]) (ret28t rfl rfl rfl HE.out.1) rfl (HTO.out _ _ _ ?_ HE.out.2.1 HE.out.2.2)
      rw [HA.out]; rfl
theorem ask_zero {k : Dk} {n : List UInt8} (h : ask k n = 0) : k.down = false ∧ 1 ≤ n.length ∧ n.length ≤ 64 := by
  unfold ask at h
  split at h
  · cases h
  · rename_i hd
    split at h
    · cases h
    · exact ⟨by simpa using hd, by omega, by omega⟩
/-- What lies in memory behind the search. -/
structure StM (w w2 : World) (b0 : Nat) (v : Value) (fuse : Int) (L : List Fl) : Prop where
  dsk : Blk w2 b0 [v, .int .i64 fuse, .bool false] 28
  res : Blk w2 (b0 + 1) [.slice none 0 0, .int .i64 0, .bool false] 28
  row : Files w2 0 v L
  bw : Below b0 w w2
  sz : b0 + 2 ≤ w2.heap.size
  low : ∀ g, v.ownBlock = some g → g < b0
theorem StM.below {w w2 w3 : World} {b0 : Nat} {v : Value} {fuse : Int} {L : List Fl} (h : StM w w2 b0 v fuse L) (hb : Below w2.heap.size w2 w3) : StM w w3 b0 v fuse L :=
  ⟨h.dsk.below hb h.dsk.lt, h.res.below hb h.res.lt, h.row.below hb (Nat.le_refl _), h.bw.trans (hb.mono (by have := h.sz; omega)), Nat.le_trans h.sz hb.size, h.low⟩
theorem size_set (w : World) (a : Addr) (x : Value) : (w.setCell a x).heap.size = w.heap.size := by simp [World.setCell]
theorem StM.put {w w2 : World} {b0 : Nat} {v : Value} {fuse : Int} {L : List Fl} (h : StM w w2 b0 v fuse L) (hw : w.heap.size = b0) {c : Nat} (hc : b0 + 2 ≤ c) (j : Nat) (x : Value) : StM w (w2.setCell ⟨c, j, none⟩ x) b0 v fuse L :=
  ⟨h.dsk.other (by show b0 ≠ c; omega) x, h.res.other (by show b0 + 1 ≠ c; omega) x, World.ownsRow.kept h.row (grownBy_set w2 ⟨c, j, none⟩ x) (.inr (fun e => by have := h.low _ e; simp only at this; omega)),
    h.bw.grown (grownBy_set w2 ⟨c, j, none⟩ x) (by have := h.sz; omega) (fun i hi => by cases hi; show b0 ≤ c; omega), by rw [size_set]; exact h.sz, h.low⟩
theorem StM.fuse {w w2 : World} {b0 : Nat} {v : Value} {fuse : Int} {L : List Fl} (h : StM w w2 b0 v fuse L) (f : Int) : StM w (w2.setCell ⟨b0, 1, none⟩ (.int .i64 f)) b0 v f L :=
  ⟨h.dsk.set 1 _, h.res.other (by show b0 + 1 ≠ b0; omega) _, World.ownsRow.kept h.row (grownBy_set w2 ⟨b0, 1, none⟩ _) (.inr (fun e => by have := h.low _ e; simp only at this; omega)),
    h.bw.grown (grownBy_set w2 ⟨b0, 1, none⟩ _) (by have := h.sz; omega) (fun i hi => by cases hi; exact Nat.le_refl _), by rw [size_set]; exact h.sz, h.low⟩
theorem StM.dn {w w2 : World} {b0 : Nat} {v : Value} {fuse : Int} {L : List Fl} (h : StM w w2 b0 v fuse L) (x : Value) : Blk (w2.setCell ⟨b0, 2, none⟩ x) (b0 + 1) [.slice none 0 0, .int .i64 0, .bool false] 28 ∧ Files (w2.setCell ⟨b0, 2, none⟩ x) 0 v L ∧ Below b0 w (w2.setCell ⟨b0, 2, none⟩ x) :=
  ⟨h.res.other (by show b0 + 1 ≠ b0; omega) _, World.ownsRow.kept h.row (grownBy_set w2 ⟨b0, 2, none⟩ _) (.inr (fun e => by have := h.low _ e; simp only at this; omega)),
    h.bw.grown (grownBy_set w2 ⟨b0, 2, none⟩ _) (by have := h.sz; omega) (fun i hi => by cases hi; exact Nat.le_refl _)⟩
theorem StM.over {w w2 : World} {b0 base : Nat} {v v2 : Value} {fuse : Int} {L L2 : List Fl} (h : StM w w2 b0 v fuse L) (hr : Files w2 base v2 L2) (x y z : Value) :
    Blk (((w2.setCell ⟨b0, 0, none⟩ x).setCell ⟨b0, 1, none⟩ y).setCell ⟨b0, 2, none⟩ z) (b0 + 1) [.slice none 0 0, .int .i64 0, .bool false] 28 ∧ Files (((w2.setCell ⟨b0, 0, none⟩ x).setCell ⟨b0, 1, none⟩ y).setCell ⟨b0, 2, none⟩ z) 0 v2 L2 ∧ Below b0 w (((w2.setCell ⟨b0, 0, none⟩ x).setCell ⟨b0, 1, none⟩ y).setCell ⟨b0, 2, none⟩ z) := by
  have hne := files_ne hr h.dsk (by decide)
  have hs := h.sz
  refine ⟨((h.res.other (by show b0 + 1 ≠ b0; omega) _).other (by show b0 + 1 ≠ b0; omega) _).other (by show b0 + 1 ≠ b0; omega) _, Files.mono (World.ownsRow.kept (World.ownsRow.kept (World.ownsRow.kept hr (grownBy_set w2 ⟨b0, 0, none⟩ x) (.inr hne)) (grownBy_set _ ⟨b0, 1, none⟩ y) (.inr hne)) (grownBy_set _ ⟨b0, 2, none⟩ z) (.inr hne)) (Nat.zero_le _), ?_⟩
  exact ((h.bw.grown (grownBy_set w2 ⟨b0, 0, none⟩ x) (by omega) (fun i hi => by cases hi; exact Nat.le_refl _)).grown (grownBy_set _ ⟨b0, 1, none⟩ y) (by rw [size_set]; omega) (fun i hi => by cases hi; exact Nat.le_refl _)).grown (grownBy_set _ ⟨b0, 2, none⟩ z) (by rw [size_set, size_set]; omega) (fun i hi => by cases hi; exact Nat.le_refl _)
theorem StM.over4 {w w2 : World} {b0 base : Nat} {v : Value} {q2 : Option Addr} {n2 c2 : Nat} {fuse : Int} {L L2 : List Fl} (h : StM w w2 b0 v fuse L) (hr : Files w2 base (.slice q2 n2 c2) L2) :
    Blk ((((w2.setCell ⟨b0, 0, none⟩ (.slice q2 n2 c2)).setCell ⟨b0, 1, none⟩ (.int .i64 0)).setCell ⟨b0, 2, none⟩ (.bool false)).setCell ⟨b0, 2, none⟩ (.bool true)) (b0 + 1) [.slice none 0 0, .int .i64 0, .bool false] 28 ∧
    Files ((((w2.setCell ⟨b0, 0, none⟩ (.slice q2 n2 c2)).setCell ⟨b0, 1, none⟩ (.int .i64 0)).setCell ⟨b0, 2, none⟩ (.bool false)).setCell ⟨b0, 2, none⟩ (.bool true)) 0 (.slice q2 n2 c2) L2 ∧
    Below b0 w ((((w2.setCell ⟨b0, 0, none⟩ (.slice q2 n2 c2)).setCell ⟨b0, 1, none⟩ (.int .i64 0)).setCell ⟨b0, 2, none⟩ (.bool false)).setCell ⟨b0, 2, none⟩ (.bool true)) ∧
    Blk ((((w2.setCell ⟨b0, 0, none⟩ (.slice q2 n2 c2)).setCell ⟨b0, 1, none⟩ (.int .i64 0)).setCell ⟨b0, 2, none⟩ (.bool false)).setCell ⟨b0, 2, none⟩ (.bool true)) b0 [.slice q2 n2 c2, .int .i64 0, .bool true] 28 := by
  obtain ⟨h1, h2, h3⟩ := h.over hr (.slice q2 n2 c2) (.int .i64 0) (.bool false)
  have hd := ((h.dsk.set 0 (.slice q2 n2 c2)).set 1 (.int .i64 0)).set 2 (.bool false)
  have hs := h.sz
  refine ⟨h1.other (by show b0 + 1 ≠ b0; omega) _, World.ownsRow.kept h2 (grownBy_set _ ⟨b0, 2, none⟩ _) (.inr (files_ne hr h.dsk (by decide))), ?_, hd.set 2 _⟩
  exact h3.grown (grownBy_set _ ⟨b0, 2, none⟩ _) (by rw [size_set, size_set, size_set]; omega) (fun i hi => by cases hi; exact Nat.le_refl _)
theorem Blk.put4 {w : World} {c : Nat} {z0 z1 z2 z3 : Value} (h : Blk w c [z0, z1, z2, z3] 71) (y0 y1 y2 y3 : Value) : Blk ((((w.setCell ⟨c, 0, none⟩ y0).setCell ⟨c, 1, none⟩ y1).setCell ⟨c, 2, none⟩ y2).setCell ⟨c, 3, none⟩ y3) c [y0, y1, y2, y3] 71 := (((h.set 0 _).set 1 _).set 2 _).set 3 _
theorem leafs {E : Nat} {D : Dk} {L L' : List Fl} {fuse kind : Int} (h : E = burnE fuse ∧ D = if fuse = 0 ∧ kind ≠ 1 then burn ⟨L, fuse, false⟩ else burn ⟨L', fuse, false⟩) :
    (fuse = 0 → kind ≠ 1 → E = 8 ∧ D = ⟨L, 0, true⟩) ∧ (fuse = 0 → kind = 1 → E = 8 ∧ D = ⟨L', 0, true⟩) ∧ (0 < fuse → E = 0 ∧ D = ⟨L', fuse - 1, false⟩) ∧ (fuse = -1 → E = 0 ∧ D = ⟨L', -1, false⟩) := by
  obtain ⟨rfl, rfl⟩ := h
  refine ⟨?_, ?_, ?_, ?_⟩
  · rintro rfl hk
    rw [if_pos ⟨rfl, hk⟩]
    exact ⟨rfl, rfl⟩
  · rintro rfl rfl
    exact ⟨rfl, rfl⟩
  · intro hp
    rw [if_neg (fun e => by omega)]
    unfold burnE burn
    rw [if_neg (by omega), if_neg (by show ¬ fuse = -1; omega), if_neg (by show ¬ fuse = 0; omega)]
    exact ⟨rfl, rfl⟩
  · rintro rfl
    exact ⟨rfl, rfl⟩
theorem bs_app (a b : List UInt8) : bs a ++ bs b = bs (a ++ b) := by
  apply ByteArray.ext
  simp [bs]
end Go.Proofs.Ytfkefppabjbbdaa
