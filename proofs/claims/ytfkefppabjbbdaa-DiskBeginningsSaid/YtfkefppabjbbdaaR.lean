/- The chapter's example. -/
import Derived.Test.YtfkefppabjbbdaaQ
import Derived.Lib.SlBytesConst
namespace Go.Proofs.Ytfkefppabjbbdaa
open Go.RowKit Go.Maps
set_option linter.unusedVariables false
theorem DiskAt.alloc {w : World} {F : Nat → Prop} {d : Nat} {k : Dk} (h : DiskAt w F d k) (o : Obj) : DiskAt (w.alloc o) F d k := by
  obtain ⟨B, E, hm, hE, hok⟩ := h
  exact ⟨B, E, hm.alloc o, hE, hok⟩
theorem DiskAt.mono {w : World} {F G : Nat → Prop} {d : Nat} {k : Dk} (h : DiskAt w F d k) (hFG : ∀ i, F i → i < w.heap.size → G i) : DiskAt w G d k := by
  obtain ⟨B, E, hm, hE, hok⟩ := h
  exact ⟨B, E, hm.mono hFG, hE, hok⟩
theorem DiskAt.below {w w' : World} {F : Nat → Prop} {d : Nat} {k : Dk} (h : DiskAt w F d k) (hb : Below w.heap.size w w') : DiskAt w' F d k := by
  obtain ⟨B, E, hm, hE, hok⟩ := h
  exact ⟨B, E, hm.below hb, hE, hok⟩
theorem DiskAt.far {w w' : World} {F G : Nat → Prop} {d : Nat} {k : Dk} (h : DiskAt w F d k) (hk : Kept G w w') (hFG : ∀ i, F i → i < w.heap.size → ¬ G i) : DiskAt w' F d k := by
  obtain ⟨B, E, hm, hE, hok⟩ := h
  exact ⟨B, E, hm.far hk hFG, hE, hok⟩
theorem DiskAt.drewN {w : World} {F : Nat → Prop} {d : Nat} {k : Dk} (h : DiskAt w F d k) (n : Nat) : DiskAt (w.drewN n) F d k := by
  obtain ⟨B, E, hm, hE, hok⟩ := h
  exact ⟨B, E, hm.quiet (grown_drewN (grown_refl _ _) n), hE, hok⟩
theorem DiskAt.lt {w : World} {F : Nat → Prop} {d : Nat} {k : Dk} (h : DiskAt w F d k) : d < w.heap.size ∧ F d := by
  obtain ⟨B, E, hm, hE, hok⟩ := h
  exact ⟨hm.self.lt, hm.fd⟩
theorem DiskAt.down {w : World} {F : Nat → Prop} {d : Nat} {k : Dk} (h : DiskAt w F d k) : w.cell? ⟨d, 3, none⟩ = some (.bool k.down) := by
  obtain ⟨B, E, hm, hE, hok⟩ := h
  exact hm.self.c 3 rfl
theorem ok_new : Ok newD := ⟨List.Pairwise.nil, (by intro f hf; cases hf), (by intro f hf; cases hf), by decide, by decide, by decide, by decide⟩
theorem new_dk (w : World) (F : Nat → Prop) (hF : ∀ i, w.heap.size ≤ i → F i) : Calls Try.prog 16 #[] w fun e w' => ∃ d, e = .returned (.pointer (some ⟨d, 0, none⟩)) ∧ DiskAt w' F d newD ∧ Below w.heap.size w w' := by
  refine (new_any w F hF).mono ?_
  rintro e w' ⟨d, B, rfl, hm, hb⟩
  exact ⟨d, rfl, ⟨B, [], hm, rfl, ok_new⟩, hb⟩
theorem ok_arm {k : Dk} (h : Ok k) {n : Int} (hn : n ≤ 9223372036854775807) : Ok (armD k n) :=
  ⟨h.sorted, h.names, h.lasts, h.tot, h.len, by show -1 ≤ max n (-1); omega, by show max n (-1) ≤ _; omega⟩
theorem arm_dk {w : World} {F : Nat → Prop} {d : Nat} {k : Dk} (h : DiskAt w F d k) (n : Int) (hn : n ≤ 9223372036854775807) :
    Calls Try.prog 23 #[.pointer (some ⟨d, 0, none⟩), .int .i64 n] w fun e w' => e = .returned (.tuple #[]) ∧ DiskAt w' F d (armD k n) ∧ Kept F w w' := by
  obtain ⟨B, E, hm, hE, hok⟩ := h
  refine (arm_any hm n).mono ?_
  rintro e w' ⟨rfl, hm', hg⟩
  exact ⟨rfl, ⟨B, E, hm', hE, ok_arm hok hn⟩, (Kept.refl F w).grown hg (fun j hj => by cases hj; exact .inr hm.fd)⟩
theorem lit_seen (w : World) (l : List UInt8) (fr : Nat × Nat) : Seen (w.alloc (.cells (u8s l).toArray 5 fr)) (w.alloc (.cells (u8s l).toArray 5 fr)).heap.size (.slice (some ⟨w.heap.size, 0, none⟩) l.length l.length) l := by
  refine Seen.mk rfl (Nat.le_refl _) (fun _ => by simp) (fun j hj => ?_)
  have hh := heap_alloc_new w (.cells (u8s l).toArray 5 fr)
  have := u8s_get hj
  rw [Addr.add_mid, Nat.zero_add]
  simp only [World.cell?, hh]
  simpa using this
def x1 : Dk := appendD newD [102] [97, 98]
def x2 : Dk := syncD x1 [102]
def x3 : Dk := appendD x2 [102] [99, 100]
def x4 : Dk := crashD x3 [1]
theorem x1E : appendE newD [102] [97, 98] = 0 := by decide
theorem x2E : syncE x1 [102] = 0 := by decide
theorem x3E : appendE x2 [102] [99, 100] = 0 := by decide
theorem x4E : find x4 [102] = 0 := by decide
theorem x4S : readS x4 [102] = [97, 98, 99] := by decide
set_option maxRecDepth 100000 in
theorem awake_any (w : World) : Calls Try.prog 12 #[] w fun e w' => e = .returned (.bool true) ∧ Below w.heap.size w w' := by
  have kc := fun (w : World) (C : Array Value) (n c : Nat) => Lib.run_convert_bytes_const (P := Try.prog) w 31 5 C n c Try.underlying31 Try.underlying5
  have hnew := Lib.hid (new_dk w (fun i => w.heap.size ≤ i) (fun i hi => hi))
  go_enter Try.func12, Try.ntmps12
  go_wp2_with fail
  refine (hnew.out).mono ?_
  rintro e w1 ⟨d, rfl, hd1, hb1⟩
  have HD1 := Lib.hid hd1
  have HB1 := Lib.hid hb1
  clear hd1 hb1 hnew
  go_wp2_with fail
  have hF1 : ∀ i, (w1.alloc (.cells #[.int .u8 97, .int .u8 98] 5 (2, 3))).heap.size ≤ i → w.heap.size ≤ i := fun i hi => by have := HB1.out.size; simp at hi; omega
  refine (append_any hF1 (HD1.out.alloc _) [102] (by decide) _ [97, 98] _ (lit_seen w1 [97, 98] (2, 3)) (Nat.le_refl _) (by decide)).mono ?_
  rw [x1E]
  rintro e w2 ⟨rfl, hd2, hk2⟩
  have HD2 : Hid (DiskAt w2 (fun i => w.heap.size ≤ i) d x1) := Lib.hid hd2
  have HK2 := Lib.hid (((Kept.refl (fun i => w.heap.size ≤ i) w1).alloc (.cells #[.int .u8 97, .int .u8 98] 5 (2, 3))).trans hk2)
  clear hd2 hk2 hF1
  go_wp2_with fail
  refine (sync_any HD2.out [102] (by decide)).mono ?_
  rw [x2E]
  rintro e w3 ⟨rfl, hd3, hk3⟩
  have HD3 : Hid (DiskAt w3 (fun i => w.heap.size ≤ i) d x2) := Lib.hid hd3
  have HK3 := Lib.hid (HK2.out.trans hk3)
  clear hd3 hk3
  go_wp2_with fail
  have hF3 : ∀ i, (w3.alloc (.cells #[.int .u8 99, .int .u8 100] 5 (2, 3))).heap.size ≤ i → w.heap.size ≤ i := fun i hi => by have := HB1.out.size; have := HK3.out.size; simp at hi; omega
  refine (append_any hF3 (HD3.out.alloc _) [102] (by decide) _ [99, 100] _ (lit_seen w3 [99, 100] (2, 3)) (Nat.le_refl _) (by decide)).mono ?_
  rw [x3E]
  rintro e w4 ⟨rfl, hd4, hk4⟩
  have HD4 : Hid (DiskAt w4 (fun i => w.heap.size ≤ i) d x3) := Lib.hid hd4
  have HK4 := Lib.hid ((HK3.out.alloc (.cells #[.int .u8 99, .int .u8 100] 5 (2, 3))).trans hk4)
  clear hd4 hk4 hF3
  go_wp2_with fail
  have hD5 : DiskAt (w4.alloc (.cells #[.int .i64 1] 3)) (fun i => w.heap.size ≤ i ∧ i ≠ w4.heap.size) d x3 := (HD4.out.mono (G := fun i => w.heap.size ≤ i ∧ i ≠ w4.heap.size) (fun i hi hl => ⟨hi, by omega⟩)).alloc _
  have hI5 : Ints (w4.alloc (.cells #[.int .i64 1] 3)) (fun i => ¬ (w.heap.size ≤ i ∧ i ≠ w4.heap.size)) (.slice (some ⟨w4.heap.size, 0, none⟩) 1 1) [1] := by
    refine .inr ⟨⟨w4.heap.size, 0, none⟩, 1, rfl, fun _ => ⟨fun h => h.2 rfl, by simp⟩, fun j hj => ?_⟩
    have : j = 0 := by simp at hj; omega
    subst this
    exact cell_one w4 (.int .i64 1) 3 0 _ rfl
  refine (crash_any hD5 _ [1] hI5 (by decide)).mono ?_
  rintro e w5 ⟨rfl, hd5, hk5⟩
  have HD5 : Hid (DiskAt w5 (fun i => w.heap.size ≤ i) d x4) := Lib.hid (hd5.mono (fun i hi _ => hi.1))
  have HK5 := Lib.hid ((HK4.out.alloc (.cells #[.int .i64 1] 3)).trans (hk5.mono (fun i hi => hi.1)))
  clear hd5 hk5 hD5 hI5
  go_wp2_with fail
  refine (read_any HD5.out [102] (by decide)).mono ?_
  rw [x4E, x4S]
  rintro e w6 ⟨u, rfl, ho, hd6, hb6⟩
  have hb : Hid (Below w.heap.size w w6) := Lib.hid ((HB1.out.trans (HK5.out.below HB1.out.size (fun i hi => hi))).trans (hb6.mono (by have := HK5.out.size; have := HB1.out.size; omega)))
  have ht := (Seen.own ho).text
  obtain ⟨q, cap, rfl⟩ := ho.len
  have q1 := bs_toList [97, 98, 99]
  have ht' : (convert 31 9 (.slice q 3 cap)).run Try.prog w6 = .ok (.string (bs [97, 98, 99])) w6 := ht
  clear ht ho hd6 hb6 kc
  go_wp2_with fail
  go_ret
  exact ⟨rfl, hb.out⟩
end Go.Proofs.Ytfkefppabjbbdaa
