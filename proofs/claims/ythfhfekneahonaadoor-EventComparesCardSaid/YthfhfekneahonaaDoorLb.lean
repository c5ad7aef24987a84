/- Three events in three blocks; the walk of EventCompares. -/
import Derived.Test.YthfhfekneahonaaDoorQ
import Derived.Test.YthfhfekneahonaaDoorLa
import Derived.Deep.DeepCutAuto
import Derived.Lib.QuietBelow
namespace Go.Proofs.YthfhfekneahonaaDoor
open Go.RowKit
set_option linter.unusedVariables false
/-- Three events in three blocks, and what the walk asks. -/
structure F3 (W : World) (e1 e2 e3 : Ev) (w : World) : Prop where
  v1 : EvAt w W.heap.size e1
  v2 : EvAt w (W.heap.size + 1) e2
  v3 : EvAt w (W.heap.size + 1 + 1) e3
  lay : Lay w
  bw : Below W.heap.size W w
theorem F3.alloc {W w : World} {e1 e2 e3 : Ev} (h : F3 W e1 e2 e3 w) (o : Obj) : F3 W e1 e2 e3 (w.alloc o) := ⟨h.v1.alloc o, h.v2.alloc o, h.v3.alloc o, h.lay.alloc o, h.bw.alloc h.bw.size o⟩
theorem F3.drew {W w : World} {e1 e2 e3 : Ev} (h : F3 W e1 e2 e3 w) : F3 W e1 e2 e3 w.drew := ⟨h.v1, h.v2, h.v3, h.lay.drew, h.bw.drew⟩
theorem F3.below {W w w' : World} {e1 e2 e3 : Ev} (h : F3 W e1 e2 e3 w) (hb : Below w.heap.size w w') : F3 W e1 e2 e3 w' := ⟨h.v1.below hb h.v1.lt, h.v2.below hb h.v2.lt, h.v3.below hb h.v3.lt, h.lay.next hb, h.bw.trans (hb.mono h.bw.size)⟩
theorem F3.out {W w : World} {s1 : ByteArray} {n1 a1 k1 : Int} {p1 i1 : ByteArray} {v1 : Int} {t1 : ByteArray} {s2 : ByteArray} {n2 a2 k2 : Int} {p2 i2 : ByteArray} {v2 : Int} {t2 : ByteArray} {s3 : ByteArray} {n3 a3 k3 : Int} {p3 i3 : ByteArray} {v3 : Int} {t3 : ByteArray} (h : F3 W ⟨s1, n1, a1, k1, p1, i1, v1, t1⟩ ⟨s2, n2, a2, k2, p2, i2, v2, t2⟩ ⟨s3, n3, a3, k3, p3, i3, v3, t3⟩ w) : (w.cell? ⟨W.heap.size, 0, none⟩ = some (.string s1) ∧ w.cell? ⟨W.heap.size, 1, none⟩ = some (.int .i64 n1) ∧ w.cell? ⟨W.heap.size, 2, none⟩ = some (.int .i64 a1) ∧ w.cell? ⟨W.heap.size, 3, none⟩ = some (.int .i64 k1) ∧ w.cell? ⟨W.heap.size, 4, none⟩ = some (.string p1) ∧ w.cell? ⟨W.heap.size, 5, none⟩ = some (.string i1) ∧ w.cell? ⟨W.heap.size, 6, none⟩ = some (.int .i64 v1) ∧ w.cell? ⟨W.heap.size, 7, none⟩ = some (.string t1) ∧ w.cell? ⟨W.heap.size + 1, 0, none⟩ = some (.string s2) ∧ w.cell? ⟨W.heap.size + 1, 1, none⟩ = some (.int .i64 n2) ∧ w.cell? ⟨W.heap.size + 1, 2, none⟩ = some (.int .i64 a2) ∧ w.cell? ⟨W.heap.size + 1, 3, none⟩ = some (.int .i64 k2) ∧ w.cell? ⟨W.heap.size + 1, 4, none⟩ = some (.string p2) ∧ w.cell? ⟨W.heap.size + 1, 5, none⟩ = some (.string i2) ∧ w.cell? ⟨W.heap.size + 1, 6, none⟩ = some (.int .i64 v2) ∧ w.cell? ⟨W.heap.size + 1, 7, none⟩ = some (.string t2) ∧ w.cell? ⟨W.heap.size + 1 + 1, 0, none⟩ = some (.string s3) ∧ w.cell? ⟨W.heap.size + 1 + 1, 1, none⟩ = some (.int .i64 n3) ∧ w.cell? ⟨W.heap.size + 1 + 1, 2, none⟩ = some (.int .i64 a3) ∧ w.cell? ⟨W.heap.size + 1 + 1, 3, none⟩ = some (.int .i64 k3) ∧ w.cell? ⟨W.heap.size + 1 + 1, 4, none⟩ = some (.string p3) ∧ w.cell? ⟨W.heap.size + 1 + 1, 5, none⟩ = some (.string i3) ∧ w.cell? ⟨W.heap.size + 1 + 1, 6, none⟩ = some (.int .i64 v3) ∧ w.cell? ⟨W.heap.size + 1 + 1, 7, none⟩ = some (.string t3) ∧ W.heap.size + 1 + 1 < w.heap.size) ∧ F3 W ⟨s1, n1, a1, k1, p1, i1, v1, t1⟩ ⟨s2, n2, a2, k2, p2, i2, v2, t2⟩ ⟨s3, n3, a3, k3, p3, i3, v3, t3⟩ w := by
  obtain ⟨c0, c1, c2, c3, c4, c5, c6, c7⟩ := h.v1.all
  obtain ⟨d0, d1, d2, d3, d4, d5, d6, d7⟩ := h.v2.all
  obtain ⟨g0, g1, g2, g3, g4, g5, g6, g7⟩ := h.v3.all
  exact ⟨⟨c0, c1, c2, c3, c4, c5, c6, c7, d0, d1, d2, d3, d4, d5, d6, d7, g0, g1, g2, g3, g4, g5, g6, g7, h.v3.lt⟩, h⟩
theorem F3.start {w w' : World} {s1 : ByteArray} {n1 a1 k1 : Int} {p1 i1 : ByteArray} {v1 : Int} {t1 : ByteArray} {s2 : ByteArray} {n2 a2 k2 : Int} {p2 i2 : ByteArray} {v2 : Int} {t2 : ByteArray} {s3 : ByteArray} {n3 a3 k3 : Int} {p3 i3 : ByteArray} {v3 : Int} {t3 : ByteArray} (hL : Lay w) (hb : Below (((w.alloc (.cells #[.string s1, .int .i64 n1, .int .i64 a1, .int .i64 k1, .string p1, .string i1, .int .i64 v1, .string t1] 24)).alloc (.cells #[.string s2, .int .i64 n2, .int .i64 a2, .int .i64 k2, .string p2, .string i2, .int .i64 v2, .string t2] 24)).alloc (.cells #[.string s3, .int .i64 n3, .int .i64 a3, .int .i64 k3, .string p3, .string i3, .int .i64 v3, .string t3] 24)).heap.size (((w.alloc (.cells #[.string s1, .int .i64 n1, .int .i64 a1, .int .i64 k1, .string p1, .string i1, .int .i64 v1, .string t1] 24)).alloc (.cells #[.string s2, .int .i64 n2, .int .i64 a2, .int .i64 k2, .string p2, .string i2, .int .i64 v2, .string t2] 24)).alloc (.cells #[.string s3, .int .i64 n3, .int .i64 a3, .int .i64 k3, .string p3, .string i3, .int .i64 v3, .string t3] 24)) w') : F3 w ⟨s1, n1, a1, k1, p1, i1, v1, t1⟩ ⟨s2, n2, a2, k2, p2, i2, v2, t2⟩ ⟨s3, n3, a3, k3, p3, i3, v3, t3⟩ w' := by
  refine ⟨(((EvAt.new w ⟨s1, n1, a1, k1, p1, i1, v1, t1⟩).alloc _).alloc _).below hb (by simp; omega), ?_, ?_, ((((hL.alloc _).alloc _).alloc _)).next hb, (((((Below.refl w.heap.size w).alloc (by simp) _).alloc (by simp) _).alloc (by simp; omega) _)).trans (hb.mono (by simp; omega))⟩
  · have h := EvAt.new (w.alloc (.cells #[.string s1, .int .i64 n1, .int .i64 a1, .int .i64 k1, .string p1, .string i1, .int .i64 v1, .string t1] 24)) ⟨s2, n2, a2, k2, p2, i2, v2, t2⟩
    simp only [World.size_alloc] at h
    exact (h.alloc _).below hb (by simp)
  · have h := EvAt.new ((w.alloc (.cells #[.string s1, .int .i64 n1, .int .i64 a1, .int .i64 k1, .string p1, .string i1, .int .i64 v1, .string t1] 24)).alloc (.cells #[.string s2, .int .i64 n2, .int .i64 a2, .int .i64 k2, .string p2, .string i2, .int .i64 v2, .string t2] 24)) ⟨s3, n3, a3, k3, p3, i3, v3, t3⟩
    simp only [World.size_alloc] at h
    exact h.below hb (by simp)
end Go.Proofs.YthfhfekneahonaaDoor
