/- Blocks of one and of two cells of the call's own: what their cells hold, and what they are behind a store, a new block, a call. -/
import Derived.WalkKit
import Derived.Lib.Hide
namespace Go.Proofs.Yteicljlmdphkhaa
open Go.RowKit
set_option linter.unusedVariables false
/-- A block of two cells. -/
def Blk2 (w : World) (b : Nat) (x y : Value) (t : TypeId) : Prop := w.heap[b]? = some (.cells #[x, y] t (0, 0))
theorem Blk2.lt {w : World} {b : Nat} {x y : Value} {t : TypeId} (h : Blk2 w b x y t) : b < w.heap.size := lt_of_block h
theorem Blk2.c0 {w : World} {b : Nat} {x y : Value} {t : TypeId} (h : Blk2 w b x y t) : w.cell? ⟨b, 0, none⟩ = some x := by unfold Blk2 at h; simp [World.cell?, h]
theorem Blk2.c1 {w : World} {b : Nat} {x y : Value} {t : TypeId} (h : Blk2 w b x y t) : w.cell? ⟨b, 1, none⟩ = some y := by unfold Blk2 at h; simp [World.cell?, h]
theorem Blk2.f0 {w : World} {b : Nat} {x y : Value} {t : TypeId} (h : Blk2 w b x y t) : w.frozen? ⟨b, 0, none⟩ = false := by unfold Blk2 at h; simp [World.frozen?, h]
theorem Blk2.f1 {w : World} {b : Nat} {x y : Value} {t : TypeId} (h : Blk2 w b x y t) : w.frozen? ⟨b, 1, none⟩ = false := by unfold Blk2 at h; simp [World.frozen?, h]
theorem Blk2.set0 {w : World} {b : Nat} {x y : Value} {t : TypeId} (h : Blk2 w b x y t) (u : Value) : Blk2 (w.setCell ⟨b, 0, none⟩ u) b u y t := by
  have hlt := h.lt
  have h' : w.heap[b] = .cells #[x, y] t (0, 0) := by unfold Blk2 at h; simpa [Array.getElem?_eq_getElem hlt] using h
  show (w.heap.modify b _)[b]? = _
  rw [Array.getElem?_eq_getElem (by simpa using hlt), Array.getElem_modify_self, h']
  rfl
theorem Blk2.set1 {w : World} {b : Nat} {x y : Value} {t : TypeId} (h : Blk2 w b x y t) (u : Value) : Blk2 (w.setCell ⟨b, 1, none⟩ u) b x u t := by
  have hlt := h.lt
  have h' : w.heap[b] = .cells #[x, y] t (0, 0) := by unfold Blk2 at h; simpa [Array.getElem?_eq_getElem hlt] using h
  show (w.heap.modify b _)[b]? = _
  rw [Array.getElem?_eq_getElem (by simpa using hlt), Array.getElem_modify_self, h']
  rfl
theorem Blk2.other {w : World} {b : Nat} {x y : Value} {t : TypeId} (h : Blk2 w b x y t) {a : Addr} (ha : b ≠ a.block) (u : Value) : Blk2 (w.setCell a u) b x y t := by
  unfold Blk2; rw [Below.heap_setCell _ _ _ _ ha]; exact h
theorem Blk2.alloc {w : World} {b : Nat} {x y : Value} {t : TypeId} (h : Blk2 w b x y t) (o : Obj) : Blk2 (w.alloc o) b x y t := by
  have := h.lt
  unfold Blk2; rw [Below.heap_alloc _ _ _ this]; exact h
theorem Blk2.drew {w : World} {b : Nat} {x y : Value} {t : TypeId} (h : Blk2 w b x y t) : Blk2 w.drew b x y t := h
theorem Blk2.below {w w' : World} {B b : Nat} {x y : Value} {t : TypeId} (h : Blk2 w b x y t) (hb : Below B w w') (hl : b < B) : Blk2 w' b x y t := by
  unfold Blk2; rw [hb.block b hl]; exact h
theorem Blk2.new (w : World) (x y : Value) (t : TypeId) : Blk2 (w.alloc (.cells #[x, y] t)) w.heap.size x y t := by
  show (w.heap.push _)[_]? = _
  simp
/-- All four facts that the walk asks for. -/
theorem Blk2.all {w : World} {b : Nat} {x y : Value} {t : TypeId} (h : Blk2 w b x y t) : w.cell? ⟨b, 0, none⟩ = some x ∧ w.cell? ⟨b, 1, none⟩ = some y ∧ w.frozen? ⟨b, 0, none⟩ = false ∧ w.frozen? ⟨b, 1, none⟩ = false := ⟨h.c0, h.c1, h.f0, h.f1⟩
end Go.Proofs.Yteicljlmdphkhaa
