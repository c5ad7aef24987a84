/- Texts as bytes; names; disks of one file. -/
import Derived.Test.YtfkefppabjbbdaaR
import Derived.Laws.IdiomStrings
namespace Go.Proofs.Ytfkefppabjbbdaa
open Go.RowKit Go.Maps
set_option linter.unusedVariables false
def gcap (w : World) (l : List UInt8) : Nat := grownCap w l.length 0 5
def crow (w : World) (l : List UInt8) : Array Value := bytesRow (bs l) (gcap w l)
def cfr (w : World) (l : List UInt8) : Nat × Nat := ((crow w l).size, (crow w l).size + 1)
theorem run_conv (w : World) (l : List UInt8) : (convert 9 31 (.string (bs l))).run Try.prog w = .ok (.slice (some ⟨w.heap.size, 0, none⟩) l.length (gcap w l)) (w.alloc (.cells (crow w l) 5 (cfr w l))).drew := by
  have := run_bytes_of_string (P := Try.prog) w 9 31 5 (bs l) Try.underlying9 Try.underlying31 Try.underlying5
  rw [this]
  unfold cfr crow gcap
  rw [bs_size]
  rfl
theorem conv_seen (w : World) (l : List UInt8) : Seen (w.alloc (.cells (crow w l) 5 (cfr w l))).drew (w.alloc (.cells (crow w l) 5 (cfr w l))).drew.heap.size (.slice (some ⟨w.heap.size, 0, none⟩) l.length (gcap w l)) l := by
  refine Seen.mk rfl ?_ (fun _ => ?_) (fun j hj => ?_)
  · exact grownCap_ge w _ _ _
  · show w.heap.size < (w.alloc _).heap.size
    simp
  · rw [Addr.add_mid, Nat.zero_add]
    show (w.alloc (.cells (crow w l) 5 (cfr w l))).cell? ⟨w.heap.size, j, none⟩ = _
    rw [World.cell?_alloc_mark]
    unfold crow
    rw [bytesRow_at _ _ _ (by simpa [bs] using hj)]
    simp [bs]
theorem DiskAt.conv {w : World} {F : Nat → Prop} {d : Nat} {k : Dk} (h : DiskAt w F d k) (l : List UInt8) : DiskAt (w.alloc (.cells (crow w l) 5 (cfr w l))).drew F d k := (h.alloc _).drewN 1
theorem Kept.conv {F : Nat → Prop} {a w : World} (h : Kept F a w) (l : List UInt8) : Kept F a (w.alloc (.cells (crow w l) 5 (cfr w l))).drew := (h.alloc _).drew
theorem conv_size (w : World) (l : List UInt8) : (w.alloc (.cells (crow w l) 5 (cfr w l))).drew.heap.size = w.heap.size + 1 := by
  show (w.alloc _).heap.size = _
  simp
theorem names_dk {w : World} {F : Nat → Prop} {d : Nat} {k : Dk} (h : DiskAt w F d k) :
    Calls Try.prog 20 #[.pointer (some ⟨d, 0, none⟩)] w fun e w' => ∃ q cap, e = .returned (.slice q k.L.length cap) ∧ Txts w' w.heap.size (.slice q k.L.length cap) (k.L.map Fl.name) ∧ DiskAt w' F d k ∧ Below w.heap.size w w' := by
  have hh := h
  obtain ⟨B, E, hm, hE, hok⟩ := h
  refine (names_mem hm (by rw [← len_E hE]; have := hok.len; omega)).mono ?_
  rintro e w' ⟨v, rfl, ht, hb⟩
  have hNE : E.map Ent.k = k.L.map Fl.name := by rw [← hE, List.map_map]; rfl
  rw [hNE] at ht
  obtain ⟨q, cap, rfl⟩ := ht.len
  rw [List.length_map] at ht ⊢
  exact ⟨q, cap, rfl, ht, hh.below hb, hb⟩
/-- A disk of one file, all of which lasts. -/
def one (n x : List UInt8) (fuse : Int) (down : Bool) : Dk := ⟨[⟨n, x, x.length, true⟩], fuse, down⟩
theorem get_one (n x : List UInt8) (fuse : Int) (down : Bool) : get n (one n x fuse down).L = some ⟨n, x, x.length, true⟩ := by simp [one, getK]
theorem ask_ok {k : Dk} {n : List UInt8} (hd : k.down = false) (h1 : 1 ≤ n.length) (h2 : n.length ≤ 64) : ask k n = 0 := by
  unfold ask; rw [hd, if_neg (by simp), if_neg (by omega)]
theorem ask_bad {k : Dk} {n : List UInt8} (hd : k.down = false) (h : ¬ (1 ≤ n.length ∧ n.length ≤ 64)) : ask k n = 1 := by
  unfold ask; rw [hd, if_neg (by simp), if_pos (by omega)]
theorem rep_bad {n b : List UInt8} (h : ¬ (1 ≤ n.length ∧ n.length ≤ 64)) : replaceE newD n b = 1 ∧ replaceD newD n b = newD := by
  have : mayHold newD n (moreR newD n b) = 1 := by
    unfold mayHold; rw [ask_bad rfl h]; simp
  constructor
  · unfold replaceE; rw [this]; simp
  · unfold replaceD; rw [this]; simp
theorem rep_new {n b : List UInt8} (h1 : 1 ≤ n.length) (h2 : n.length ≤ 64) (hb : b.length ≤ 4194304) : replaceE newD n b = 0 ∧ replaceD newD n b = one n b (-1) false := by
  have : mayHold newD n (moreR newD n b) = 0 := by
    unfold mayHold; rw [ask_ok rfl h1 h2, replace_none (by rfl)]
    rw [if_neg (by simp), if_neg]
    rintro (h | ⟨_, h⟩)
    · simp [newD, tot] at h; omega
    · simp [newD] at h
  constructor
  · unfold replaceE; rw [this]; rfl
  · unfold replaceD; rw [this]; rfl
theorem rep_one {n x b : List UInt8} {f : Int} (h1 : 1 ≤ n.length) (h2 : n.length ≤ 64) (hb : b.length ≤ 4194304) (hx : x.length ≤ 4194304) :
    replaceE (one n x f false) n b = burnE f ∧ replaceD (one n x f false) n b = if f = 0 then one n x 0 true else one n b (burnF f) false := by
  have : mayHold (one n x f false) n (moreR (one n x f false) n b) = 0 := by
    unfold mayHold; rw [ask_ok rfl h1 h2, replace_some (get_one n x f false)]
    rw [if_neg (by simp), if_neg]
    rintro (h | ⟨h, _⟩)
    · simp [one, tot] at h; omega
    · rw [get_one] at h; cases h
  constructor
  · unfold replaceE; rw [this]; rfl
  · unfold replaceD; rw [this, if_neg (by simp)]
    show (if f = 0 then _ else _) = _
    by_cases h0 : f = 0
    · rw [if_pos h0, if_pos h0, h0]; rfl
    · rw [if_neg h0, if_neg h0]
      have hi : ins ⟨n, b, b.length, true⟩ (one n x f false).L = [⟨n, b, b.length, true⟩] := by
        show (if n < n then _ else if n = n then _ else _) = _
        rw [if_neg (lt_irr n), if_pos rfl]
      rw [hi]
      unfold burn one burnF withL
      by_cases hm : f = -1
      · simp [hm]
      · simp [hm, h0]
theorem arm_one (n x : List UInt8) (f : Int) (fuse : Int) : armD (one n x f false) fuse = one n x (max fuse (-1)) false := rfl
theorem crash_one (n x : List UInt8) (f : Int) (down : Bool) (ks : List Int) : crashD (one n x f down) ks = one n x (-1) false := by
  have h1 : ∀ left, cutF ⟨n, x, x.length, true⟩ left = ⟨n, x, x.length, true⟩ := by
    intro left
    have : leftN ⟨n, x, x.length, true⟩ left = 0 := by unfold leftN; simp
    unfold cutF
    rw [this]
    simp
  have h2 : ∀ left, crashF ⟨n, x, x.length, true⟩ left = [⟨n, x, x.length, true⟩] := by
    intro left
    unfold crashF
    rw [h1]
    rfl
  show Dk.mk (crashF _ _ ++ []) _ _ = _
  rw [h2]
  rfl
theorem find_one {n x : List UInt8} {f : Int} (h1 : 1 ≤ n.length) (h2 : n.length ≤ 64) : find (one n x f false) n = 0 ∧ readS (one n x f false) n = x := by
  have h : find (one n x f false) n = 0 := by
    unfold find; rw [ask_ok rfl h1 h2, if_neg (by simp), get_one]; rfl
  refine ⟨h, ?_⟩
  unfold readS
  rw [if_neg (by rw [h]; simp), old_some (get_one n x f false)]
end Go.Proofs.Ytfkefppabjbbdaa
