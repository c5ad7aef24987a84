/- The event with which bytes begin: the reference's. -/
import Derived.Test.YthfhfekneahonaaDoorYb
import Derived.Test.YthfhfekneahonaaDoorX3
namespace Go.Proofs.YthfhfekneahonaaDoor
open Go.RowKit
set_option linter.unusedVariables false
/-- What Decode answers. -/
def decV (l : List UInt8) : Value := match decL l with
  | .ok e r => .tuple #[.agg #[.string e.s, .int .i64 e.n, .int .i64 e.a, .int .i64 e.k, .string e.p, .string e.i, .int .i64 e.v, .string e.t], .int .i64 ((l.length - r.length : Nat) : Int), .int .i64 0]
  | .bad c => .tuple #[.agg #[.string ⟨#[]⟩, .int .i64 0, .int .i64 0, .int .i64 0, .string ⟨#[]⟩, .string ⟨#[]⟩, .int .i64 0, .string ⟨#[]⟩], .int .i64 0, .int .i64 c]
theorem decV_bad {l : List UInt8} {c : Int} (h : decL l = .bad c) : decV l = .tuple #[.agg #[.string ⟨#[]⟩, .int .i64 0, .int .i64 0, .int .i64 0, .string ⟨#[]⟩, .string ⟨#[]⟩, .int .i64 0, .string ⟨#[]⟩], .int .i64 0, .int .i64 c] := by unfold decV; rw [h]
theorem decV_ok {l : List UInt8} {e : Ev} {r : List UInt8} (h : decL l = .ok e r) : decV l = .tuple #[.agg #[.string e.s, .int .i64 e.n, .int .i64 e.a, .int .i64 e.k, .string e.p, .string e.i, .int .i64 e.v, .string e.t], .int .i64 ((l.length - r.length : Nat) : Int), .int .i64 0] := by unfold decV; rw [h]
theorem rdTxt_bad {l : List UInt8} {c : Int} (h : rdTxt l = .bad c) : c = 3 := by
  cases l with
  | nil => injection h with h; exact h.symm
  | cons x r =>
    have h' : (if r.length < x.toNat then Rd.bad 3 else Rd.ok (bs (r.take x.toNat)) (r.drop x.toNat)) = Rd.bad c := h
    by_cases hs : r.length < x.toNat
    · rw [if_pos hs] at h'; injection h' with h'; exact h'.symm
    · rw [if_neg hs] at h'; cases h'
theorem rdNumF_bad : ∀ (f : Nat) (later : Bool) (l : List UInt8) (c : Int), rdNumF f later l = .bad c → c = 2 ∨ c = 3
  | 0, _, _, c, h => by injection h with h; exact .inl h.symm
  | f + 1, _, [], c, h => by injection h with h; exact .inr h.symm
  | f + 1, later, x :: l, c, h => by
    unfold rdNumF at h
    by_cases hc : x.toNat < 128
    · rw [if_pos hc] at h
      by_cases h0 : x.toNat = 0 ∧ later = true
      · rw [if_pos h0] at h; injection h with h; exact .inl h.symm
      · rw [if_neg h0] at h; cases h
    · rw [if_neg hc] at h
      cases hr : rdNumF f true l with
      | ok m r => rw [hr] at h; cases h
      | bad c' =>
        rw [hr] at h
        injection h with h
        subst h
        exact rdNumF_bad f true l _ hr
theorem rdNum_bad {l : List UInt8} {c : Int} (h : rdNum l = .bad c) : c = 2 ∨ c = 3 := rdNumF_bad 6 false l c h
theorem Chain.all_bad {l : List UInt8} {k : UInt8} {s : ByteArray} {n a : Nat} {p i : ByteArray} {v : Nat} {t : ByteArray} {x1 x2 x3 x4 x5 x6 x7 x8 : Rd Unit} (hc : Chain l k s n a p i v t x1 x2 x3 x4 x5 x6 x7 x8) {c : Int} (h : x2 = .bad c ∨ x3 = .bad c ∨ x4 = .bad c ∨ x5 = .bad c ∨ x6 = .bad c ∨ x7 = .bad c ∨ x8 = .bad c) : decL l = .bad c := by
  have h8 : x8 = .bad c := by
    rcases h with rfl | rfl | rfl | rfl | rfl | rfl | h
    · rw [← hc.g8, ← hc.g7, ← hc.g6, ← hc.g5, ← hc.g4, ← hc.g3]; rfl
    · rw [← hc.g8, ← hc.g7, ← hc.g6, ← hc.g5, ← hc.g4]; rfl
    · rw [← hc.g8, ← hc.g7, ← hc.g6, ← hc.g5]; rfl
    · rw [← hc.g8, ← hc.g7, ← hc.g6]; rfl
    · rw [← hc.g8, ← hc.g7]; rfl
    · rw [← hc.g8]; rfl
    · exact h
  unfold decL
  rw [hc.ev, h8]; rfl
theorem drop_suffix {l r : List UInt8} {k : Nat} {q : List UInt8} (h : q ++ r = l.drop k) : r = l.drop (l.length - r.length) := by
  have hl := congrArg List.length h
  rw [List.length_append, List.length_drop] at hl
  have e : l.drop (k + q.length) = r := by rw [← List.drop_drop, ← h, List.drop_left]
  by_cases hz : r.length = 0
  · have hr : r = [] := List.length_eq_zero_iff.1 hz
    subst hr
    simp
  · rw [show l.length - r.length = k + q.length by omega, e]
def partE (k : UInt8) (s : ByteArray) (n a : Nat) (p i : ByteArray) (v : Nat) (t : ByteArray) : Nat → Ev
  | 0 => ⟨⟨#[]⟩, 0, 0, ((k.toNat : Nat) : Int), ⟨#[]⟩, ⟨#[]⟩, 0, ⟨#[]⟩⟩
  | 1 => ⟨s, 0, 0, ((k.toNat : Nat) : Int), ⟨#[]⟩, ⟨#[]⟩, 0, ⟨#[]⟩⟩
  | 2 => ⟨s, (n : Int), 0, ((k.toNat : Nat) : Int), ⟨#[]⟩, ⟨#[]⟩, 0, ⟨#[]⟩⟩
  | 3 => ⟨s, (n : Int), (a : Int), ((k.toNat : Nat) : Int), ⟨#[]⟩, ⟨#[]⟩, 0, ⟨#[]⟩⟩
  | 4 => ⟨s, (n : Int), (a : Int), ((k.toNat : Nat) : Int), p, ⟨#[]⟩, 0, ⟨#[]⟩⟩
  | 5 => ⟨s, (n : Int), (a : Int), ((k.toNat : Nat) : Int), p, i, 0, ⟨#[]⟩⟩
  | 6 => ⟨s, (n : Int), (a : Int), ((k.toNat : Nat) : Int), p, i, (v : Int), ⟨#[]⟩⟩
  | _ => ⟨s, (n : Int), (a : Int), ((k.toNat : Nat) : Int), p, i, (v : Int), t⟩
def partX (x1 x2 x3 x4 x5 x6 x7 x8 : Rd Unit) : Nat → Rd Unit
  | 0 => x1
  | 1 => x2
  | 2 => x3
  | 3 => x4
  | 4 => x5
  | 5 => x6
  | 6 => x7
  | _ => x8
/-- The three blocks, the bytes. -/
structure RD (W : World) (e : Ev) (v : Value) (l : List UInt8) (w : World) : Prop where
  r : EvAt w W.heap.size zeroE
  z : EvAt w (W.heap.size + 1) zeroE
  ev : EvAt w (W.heap.size + 1 + 1) e
  sn : Seen w W.heap.size v l
  bw : Below W.heap.size W w
theorem RD.start {w : World} {v : Value} {l : List UInt8} (hv : Seen w w.heap.size v l) (k : Int) : RD w ⟨⟨#[]⟩, 0, 0, k, ⟨#[]⟩, ⟨#[]⟩, 0, ⟨#[]⟩⟩ v l (((w.alloc (.cells #[.string ⟨#[]⟩, .int .i64 0, .int .i64 0, .int .i64 0, .string ⟨#[]⟩, .string ⟨#[]⟩, .int .i64 0, .string ⟨#[]⟩] 24)).alloc (.cells #[.string ⟨#[]⟩, .int .i64 0, .int .i64 0, .int .i64 0, .string ⟨#[]⟩, .string ⟨#[]⟩, .int .i64 0, .string ⟨#[]⟩] 24)).alloc (.cells #[.string ⟨#[]⟩, .int .i64 0, .int .i64 0, .int .i64 k, .string ⟨#[]⟩, .string ⟨#[]⟩, .int .i64 0, .string ⟨#[]⟩] 24)) := by
  have b1 : Below w.heap.size w (((w.alloc (.cells #[.string ⟨#[]⟩, .int .i64 0, .int .i64 0, .int .i64 0, .string ⟨#[]⟩, .string ⟨#[]⟩, .int .i64 0, .string ⟨#[]⟩] 24)).alloc (.cells #[.string ⟨#[]⟩, .int .i64 0, .int .i64 0, .int .i64 0, .string ⟨#[]⟩, .string ⟨#[]⟩, .int .i64 0, .string ⟨#[]⟩] 24)).alloc (.cells #[.string ⟨#[]⟩, .int .i64 0, .int .i64 0, .int .i64 k, .string ⟨#[]⟩, .string ⟨#[]⟩, .int .i64 0, .string ⟨#[]⟩] 24)) := (((Below.refl w.heap.size w).alloc (by simp) _).alloc (by simp) _).alloc (by simp; omega) _
  refine ⟨((EvAt.new w zeroE).alloc _).alloc _, ?_, ?_, hv.below b1 (Nat.le_refl _), b1⟩
  · have := (EvAt.new (w.alloc (.cells #[.string ⟨#[]⟩, .int .i64 0, .int .i64 0, .int .i64 0, .string ⟨#[]⟩, .string ⟨#[]⟩, .int .i64 0, .string ⟨#[]⟩] 24)) zeroE).alloc (.cells #[.string ⟨#[]⟩, .int .i64 0, .int .i64 0, .int .i64 k, .string ⟨#[]⟩, .string ⟨#[]⟩, .int .i64 0, .string ⟨#[]⟩] 24)
    simp only [World.size_alloc] at this
    exact this
  · have := EvAt.new ((w.alloc (.cells #[.string ⟨#[]⟩, .int .i64 0, .int .i64 0, .int .i64 0, .string ⟨#[]⟩, .string ⟨#[]⟩, .int .i64 0, .string ⟨#[]⟩] 24)).alloc (.cells #[.string ⟨#[]⟩, .int .i64 0, .int .i64 0, .int .i64 0, .string ⟨#[]⟩, .string ⟨#[]⟩, .int .i64 0, .string ⟨#[]⟩] 24)) ⟨⟨#[]⟩, 0, 0, k, ⟨#[]⟩, ⟨#[]⟩, 0, ⟨#[]⟩⟩
    simp only [World.size_alloc] at this
    exact this
theorem RD.later {W w w' : World} {e : Ev} {v : Value} {l : List UInt8} (h : RD W e v l w) (hb : Below w.heap.size w w') : RD W e v l w' := ⟨h.r.below hb h.r.lt, h.z.below hb h.z.lt, h.ev.below hb h.ev.lt, h.sn.below hb h.bw.size, h.bw.trans (hb.mono h.bw.size)⟩
theorem RD.s0 {W w : World} {e : Ev} {v : Value} {l : List UInt8} (h : RD W e v l w) (y : ByteArray) : RD W { e with s := y } v l (w.setCell ⟨W.heap.size + 1 + 1, 0, none⟩ (.string y)) := ⟨h.r.other (by simp; omega) _, h.z.other (by simp) _, h.ev.s0 y, h.sn.below ((Below.refl W.heap.size w).setCell (by simp; omega) _) (Nat.le_refl _), h.bw.setCell (by simp; omega) _⟩
theorem RD.s1 {W w : World} {e : Ev} {v : Value} {l : List UInt8} (h : RD W e v l w) (y : Int) : RD W { e with n := y } v l (w.setCell ⟨W.heap.size + 1 + 1, 1, none⟩ (.int .i64 y)) := ⟨h.r.other (by simp; omega) _, h.z.other (by simp) _, h.ev.s1 y, h.sn.below ((Below.refl W.heap.size w).setCell (by simp; omega) _) (Nat.le_refl _), h.bw.setCell (by simp; omega) _⟩
theorem RD.s2 {W w : World} {e : Ev} {v : Value} {l : List UInt8} (h : RD W e v l w) (y : Int) : RD W { e with a := y } v l (w.setCell ⟨W.heap.size + 1 + 1, 2, none⟩ (.int .i64 y)) := ⟨h.r.other (by simp; omega) _, h.z.other (by simp) _, h.ev.s2 y, h.sn.below ((Below.refl W.heap.size w).setCell (by simp; omega) _) (Nat.le_refl _), h.bw.setCell (by simp; omega) _⟩
theorem RD.s3 {W w : World} {e : Ev} {v : Value} {l : List UInt8} (h : RD W e v l w) (y : Int) : RD W { e with k := y } v l (w.setCell ⟨W.heap.size + 1 + 1, 3, none⟩ (.int .i64 y)) := ⟨h.r.other (by simp; omega) _, h.z.other (by simp) _, h.ev.s3 y, h.sn.below ((Below.refl W.heap.size w).setCell (by simp; omega) _) (Nat.le_refl _), h.bw.setCell (by simp; omega) _⟩
theorem RD.s4 {W w : World} {e : Ev} {v : Value} {l : List UInt8} (h : RD W e v l w) (y : ByteArray) : RD W { e with p := y } v l (w.setCell ⟨W.heap.size + 1 + 1, 4, none⟩ (.string y)) := ⟨h.r.other (by simp; omega) _, h.z.other (by simp) _, h.ev.s4 y, h.sn.below ((Below.refl W.heap.size w).setCell (by simp; omega) _) (Nat.le_refl _), h.bw.setCell (by simp; omega) _⟩
theorem RD.s5 {W w : World} {e : Ev} {v : Value} {l : List UInt8} (h : RD W e v l w) (y : ByteArray) : RD W { e with i := y } v l (w.setCell ⟨W.heap.size + 1 + 1, 5, none⟩ (.string y)) := ⟨h.r.other (by simp; omega) _, h.z.other (by simp) _, h.ev.s5 y, h.sn.below ((Below.refl W.heap.size w).setCell (by simp; omega) _) (Nat.le_refl _), h.bw.setCell (by simp; omega) _⟩
theorem RD.s6 {W w : World} {e : Ev} {v : Value} {l : List UInt8} (h : RD W e v l w) (y : Int) : RD W { e with v := y } v l (w.setCell ⟨W.heap.size + 1 + 1, 6, none⟩ (.int .i64 y)) := ⟨h.r.other (by simp; omega) _, h.z.other (by simp) _, h.ev.s6 y, h.sn.below ((Below.refl W.heap.size w).setCell (by simp; omega) _) (Nat.le_refl _), h.bw.setCell (by simp; omega) _⟩
theorem RD.s7 {W w : World} {e : Ev} {v : Value} {l : List UInt8} (h : RD W e v l w) (y : ByteArray) : RD W { e with t := y } v l (w.setCell ⟨W.heap.size + 1 + 1, 7, none⟩ (.string y)) := ⟨h.r.other (by simp; omega) _, h.z.other (by simp) _, h.ev.s7 y, h.sn.below ((Below.refl W.heap.size w).setCell (by simp; omega) _) (Nat.le_refl _), h.bw.setCell (by simp; omega) _⟩
end Go.Proofs.YthfhfekneahonaaDoor
