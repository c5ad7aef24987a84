/- The program's Names. -/
import Derived.Test.YtfkefppabjbbdaaM
import Derived.Test.YtfkefppabjbbdaaS
import Derived.Sort.OwnSorted
namespace Go.Proofs.Ytfkefppabjbbdaa
open Go.RowKit Go.Maps Go.Sort
set_option linter.unusedVariables false
theorem info9 : (Try.prog.info? 9).map (fun i => (i.zero, i.size, i.bytes)) = some (some (.string ⟨#[]⟩), 1, 16) := by kernel_rfl
/-- A value owns a list of texts. -/
def Txts (w : World) (base : Nat) (u : Value) (ps : List (List UInt8)) : Prop := w.ownsRow base 9 1 u ps.length (ps.map fun p => Value.string (bs p))
theorem Txts.below {w w' : World} {base B : Nat} {u : Value} {ps : List (List UInt8)} (h : Txts w base u ps) (hb : Below B w w') (hB : w.heap.size ≤ B) : Txts w' base u ps := by
  obtain ⟨h1, h2⟩ := h
  refine ⟨h1, ?_⟩
  rcases h2 with h2 | ⟨g, cap, cur, hv, hg, hh, r⟩
  · exact .inl h2
  · exact .inr ⟨g, cap, cur, hv, hg, by rw [hb.block g (Nat.lt_of_lt_of_le (lt_of_block hh) hB)]; exact hh, r⟩
theorem Txts.keptF {w w' : World} {base : Nat} {u : Value} {ps : List (List UInt8)} {G : Nat → Prop} (h : Txts w base u ps) (hk : Kept G w w') (hv : ∀ g, u.ownBlock = some g → ¬ G g) : Txts w' base u ps := by
  obtain ⟨h1, h2⟩ := h
  refine ⟨h1, ?_⟩
  rcases h2 with h2 | ⟨g, cap, cur, e, hg, hh, r⟩
  · exact .inl h2
  · exact .inr ⟨g, cap, cur, e, hg, by rw [hk.block g (lt_of_block hh) (hv g (by rw [e]; rfl))]; exact hh, r⟩
theorem Txts.len {w : World} {base : Nat} {u : Value} {ps : List (List UInt8)} (h : Txts w base u ps) : ∃ q cap, u = .slice q ps.length cap := by
  rcases h.2 with ⟨hv, h0⟩ | ⟨g, cap, cur, hv, _⟩
  · exact ⟨none, 0, by rw [hv, h0]⟩
  · exact ⟨_, cap, hv⟩
theorem Txts.at {w : World} {base : Nat} {q : Option Addr} {n cap : Nat} {ps : List (List UInt8)} (h : Txts w base (.slice q n cap) ps) (j : Nat) (hj : j < ps.length) : ∃ g, q = some ⟨g, 0, none⟩ ∧ w.cell? ⟨g, j, none⟩ = some (.string (bs ps[j])) := by
  rcases h.2 with ⟨hv, h0⟩ | ⟨g, cap', cur, hv, _⟩
  · omega
  · cases hv
    refine ⟨g, rfl, ?_⟩
    have := World.ownsRow.cells h (g := g) rfl j (.string (bs ps[j])) (by rw [List.getElem?_map, List.getElem?_eq_getElem hj]; rfl)
    rw [Addr.add_mid, Nat.zero_add] at this
    exact this
def mkE : Option Nat → Value
  | none => .pointer none
  | some b => .pointer (some ⟨b, 0, none⟩)
theorem inv9 : ∀ key kl, keyOf Try.prog 9 key = some kl → ∃ x, key = encStr x := fun key kl hk => by obtain ⟨x, hx, _⟩ := Maps.keyOf_str Try.underlying9 hk; exact ⟨x, hx⟩
theorem invE : ∀ v y, relem v = some y → ∃ c, v = mkE c := fun v y hv => by
  rcases relem_inv hv with ⟨rfl, _⟩ | ⟨b, rfl, _⟩
  · exact ⟨none, rfl⟩
  · exact ⟨some b, rfl⟩
theorem sorted_merge {E : List Ent} (hs : Sorted Ent.k E) {ss : List (List UInt8)} (hp : ss.Perm (E.map Ent.k)) : (ss.mergeSort fun x y => decide (x ≤ y)) = E.map Ent.k := by
  have h1 := mergeSort_of_perm hp
  have h2 : (E.map Ent.k).mergeSort leB = E.map Ent.k := List.mergeSort_of_pairwise (by
    rw [List.pairwise_map]
    exact hs.imp (fun {a b} h => by
      simp only [leB, decide_eq_true_eq]
      exact List.not_lt.1 (lt_asy h)))
  exact h1.trans h2
set_option maxRecDepth 100000 in
theorem names_mem {w : World} {F : Nat → Prop} {d B : Nat} {E : List Ent} {u fuse : Int} {down : Bool} (h : DiskM w F d B E u fuse down) (hl : E.length ≤ 1000000) :
    Calls Try.prog 20 #[.pointer (some ⟨d, 0, none⟩)] w fun e w' => ∃ v, e = .returned v ∧ Txts w' w.heap.size v (E.map Ent.k) ∧ Below w.heap.size w w' := by
  obtain ⟨i0, hi, hz0, hz1, hz2⟩ := info_parts info9
  have hown := h.map
  have hbl := World.ownsMap.lt h.map
  have HH := Lib.hid h
  have c0 := h.self.c 0 rfl
  have hsz := size_mapOf E
  have hmax : Maps.size (mapOf E) ≤ maxLen := by rw [hsz]; unfold maxLen; omega
  have hbytes : 16 * Maps.size (mapOf E) ≤ 140737488355328 := by rw [hsz]; omega
  obtain ⟨L, hL⟩ : ∃ L, Maps.size (mapOf E) = L := ⟨_, rfl⟩
  rw [hL] at hmax hbytes hsz
  have HLS := Lib.hid hL
  have HLL := Lib.hid hsz
  clear h hsz hL
  go_enter Try.func20, Try.ntmps20
  go_wp2_with (first
    | (at_len; refine wpList_len_own _ rfl _ 72 rfl 9 63 Try.underlying72 relem B E.length (mapOf E) rfl hown ?_; rw [HLS.out])
    | (at_make; refine wpList_make_own _ rfl _ _ 45 rfl w.heap.size 9 i0 (.string ⟨#[]⟩) 1 Try.underlying45 hi hz0 hz1 _ _ _ L rfl rfl rfl (by rw [hz2]; omega) hmax (Nat.le_refl _) ?_; intro w1 hrow1 hg1; have c0' := (HH.out.self.kept hg1 (by simp)).c 0 rfl)
    | (at_range; refine wpList_range_own _ rfl _ 72 rfl 9 63 law9 Try.underlying72 relem B E.length (mapOf E) rfl (World.ownsMap.kept hown hg1 (by simp)) ?_; intro w0 hrg0 hg0 hs0)
    | fail)
  go_frame
  have hbnd : Hid (w.heap.size ≤ w1.heap.size) := Lib.hid hg1.size
  go_loopw [3] (fun v wr => ∃ (left : Lit → Bool) (cnt : Nat) (ss : List (List UInt8)), wr.ranges Try.prog 9 relem B w1.heap.size E.length (mapOf E) left cnt ∧ ss.length + cnt ≤ L ∧
      wr.ownsRow w.heap.size 9 1 v ss.length (ss.map encStr) ∧ v ≠ .slice none 0 0 ∧ Collected (mapOf E) left ss ∧ Below w.heap.size w wr)
    (fun _ wr => wr.rangeLeft B w1.heap.size)
  case atStart =>
    exact ⟨_, _, [], hrg0, by rw [HLS.out]; simp, hrow1.kept hg0 (Or.inr (by simp [Value.ownBlock])), by simp, Collected.start (mapOf E),
      ((Below.refl _ w).grown hg1 (Nat.le_refl _) (fun j hj => by cases hj)).grown hg0 hg1.size (fun j hj => by cases hj)⟩
  case round =>
    obtain ⟨left, cnt, ss, hrg, hcs, hrow, hnn, hC, hnx⟩ := hrel
    go_wp2_with (first
      | (at_next; refine wpList_next_ranges _ rfl _ rfl 9 law9 relem encStr mkE inv9 invE B w1.heap.size E.length _ _ _ rfl hrg ?_ ?_)
      | fail)
    · intro hc0 hl0
      rcases hrow.2 with ⟨hnil, _⟩ | ⟨g, cap, cur, rfl, hbase, hb, h1, h2, h3, h4⟩
      · exact absurd hnil hnn
      have hH : Holds encStr wr g 0 ss.toArray := holds_of_block hb (by simpa using h4)
      have hgl : g < wr.heap.size := (Array.getElem?_eq_some_iff.1 hb).1
      have hperm : ss.Perm (E.map Ent.k) := by
        have := hC.perm hown law9 Try.underlying9 hl0
        rwa [keys_mapOf] at this
      have hmerge := sorted_merge HH.out.sorted hperm
      have hlen : ss.length = (E.map Ent.k).length := hperm.length_eq
      have hc := Lib.hid (Try.slices_Sort_string g 0 cap ss wr hH hgl (by unfold maxLen at hmax; omega))
      have HT : Hid (∀ n os, Txts (grow (putRow encStr (Sort.ahead wr n) g 0 (ss.mergeSort fun x y => decide (x ≤ y)).toArray) os) w.heap.size (.slice (some ⟨g, 0, none⟩) ss.length cap) (E.map Ent.k)) := Lib.hid (fun n os => by
        have := ownsRow_sorted (w := wr) (n := n) (os := os) (ss := ss) (ts := E.map Ent.k) hlen.symm hbase hb h1 h2 h3
        rw [hmerge]
        unfold Txts
        rw [← hlen]
        exact this)
      have HBB : Hid (∀ n os, Below w.heap.size w (grow (putRow encStr (Sort.ahead wr n) g 0 (ss.mergeSort fun x y => decide (x ≤ y)).toArray) os)) := Lib.hid (fun n os => hnx.grown (grownBy_sorted _) hnx.size (fun j hj => by cases hj; exact hbase))
      clear hlen hmerge hperm hH hb h1 h2 h3 h4 hC hrg hrow hnx
      go_wp2_with fail
      refine (hc.out).mono ?_
      rintro e w' ⟨rfl, nn, os, rfl⟩
      have HTB := Lib.hid (And.intro (HT.out nn os) (HBB.out nn os))
      clear HT HBB hc
      revert HTB
      generalize grow (putRow encStr (Sort.ahead wr nn) g 0 (ss.mergeSort fun x y => decide (x ≤ y)).toArray) os = wz
      intro HTB
      go_wp2_with fail
      go_ret
      exact ⟨_, rfl, HTB.out.1, HTB.out.2⟩
    · intro x c kl yd yp w2 cnt2 hkey hlk hv hat hrg2 hlt hg2 hs2 hen
      obtain ⟨x', ex, rfl, _⟩ := Maps.keyOf_str Try.underlying9 hkey
      obtain rfl : x = x' := encStr_inj ex
      have hrow2 := hrow.kept hg2 (Or.inr (row_ne_iter hrow hrg).symm)
      clear hs2
      go_wp2_with (first
        | (at_builtin; refine wpList_append_own _ rfl _ _ 45 rfl w.heap.size 9 i0 (.string ⟨#[]⟩) 1 16 Try.underlying45 hi hz0 hz1 hz2 rfl (by decide) _ _ _ rfl (hrow2.alloc _) ⟨w2.heap.size, 0, none⟩ 1 1 [encStr x] rfl rfl (cell_one_new _ _ _) (by simp [Value.oneCell', encStr]) (by unfold maxLen at *; omega) (by omega) (by have := hnx.size; have := hg2.size; simp; omega) ?_; intro v' w3 hown' hg3 hnil3; go_frame)
        | fail)
      have hrg3 := (hrg2.alloc (.cells #[encStr x] 9)).kept hg3 (row_ne_low hrow2 hbl) (row_ne_iter hrow2 hrg2)
      go_roundw
      case rel =>
        refine ⟨_, cnt2, ss ++ [x], hrg3, by simp; omega, by simpa using hown', fun hv' => by have := (hnil3.1 hv').2; omega, hC.step hlk hat, ?_⟩
        exact ((hnx.grown hg2 hnx.size (fun j hj => by cases hj; exact hg1.size)).alloc (by have := hnx.size; have := hg2.size; omega) _).grown hg3 (by have := hnx.size; have := hg2.size; simp; omega) (fun j hj => (hrow2.lt j hj).1)
      case measure => rw [hrg3.left_eq, hrg.left_eq]; exact hlt
end Go.Proofs.Ytfkefppabjbbdaa
