/- The text of an event: the program's. -/
import Derived.Test.YthfhfekneahonaaDoorN
import Derived.Deep.RegionHeld3
import Derived.Lib.AppendIntMem
namespace Go.Proofs.YthfhfekneahonaaDoor
open Go.RowKit
set_option linter.unusedVariables false
theorem Lay.alloc {w : World} (h : Lay w) (o : Obj) : Lay (w.alloc o) := h.next ((Below.refl _ _).alloc (Nat.le_refl _) o)
theorem Lay.drew {w : World} (h : Lay w) : Lay w.drew := h.next ((Below.refl _ _).drew)
theorem Lay.drewN {w : World} (h : Lay w) (n : Nat) : Lay (w.drewN n) := h.next (below_drewN (Below.refl _ _) n)
/-- What stands while an event is printed. -/
structure FSt (W : World) (e : Ev) (w : World) : Prop where
  ev : EvAt w W.heap.size e
  lay : Lay w
  bw : Below W.heap.size W w
theorem FSt.alloc {W w : World} {e : Ev} (h : FSt W e w) (o : Obj) : FSt W e (w.alloc o) := ⟨h.ev.alloc o, h.lay.alloc o, h.bw.alloc h.bw.size o⟩
theorem FSt.drew {W w : World} {e : Ev} (h : FSt W e w) : FSt W e w.drew := ⟨h.ev, h.lay.drew, h.bw.drew⟩
theorem FSt.below {W w w' : World} {e : Ev} (h : FSt W e w) (hb : Below w.heap.size w w') : FSt W e w' := ⟨h.ev.below hb h.ev.lt, h.lay.next hb, h.bw.trans (hb.mono h.bw.size)⟩
theorem FSt.out {W w : World} {s : ByteArray} {n a k : Int} {p i : ByteArray} {v : Int} {t : ByteArray} (h : FSt W ⟨s, n, a, k, p, i, v, t⟩ w) (j : Nat) (hj : j < 15) : (w.cell? ⟨W.heap.size, 0, none⟩ = some (.string s) ∧ w.cell? ⟨W.heap.size, 1, none⟩ = some (.int .i64 n) ∧ w.cell? ⟨W.heap.size, 2, none⟩ = some (.int .i64 a) ∧ w.cell? ⟨W.heap.size, 3, none⟩ = some (.int .i64 k) ∧ w.cell? ⟨W.heap.size, 4, none⟩ = some (.string p) ∧ w.cell? ⟨W.heap.size, 5, none⟩ = some (.string i) ∧ w.cell? ⟨W.heap.size, 6, none⟩ = some (.int .i64 v) ∧ w.cell? ⟨W.heap.size, 7, none⟩ = some (.string t) ∧ w.cell? ⟨0, j * 6, none⟩ = some (.string (bs (kR j).word)) ∧ W.heap.size < w.heap.size ∧ 0 < w.heap.size) ∧ FSt W ⟨s, n, a, k, p, i, v, t⟩ w := by
  obtain ⟨c0, c1, c2, c3, c4, c5, c6, c7⟩ := h.ev.all
  exact ⟨⟨c0, c1, c2, c3, c4, c5, c6, c7, (h.lay.row j hj).1, h.ev.lt, by have := h.lay.sz; omega⟩, h⟩
theorem itoa_any (n : Nat) (hn : n ≤ 9223372036854775807) (w : World) (hL : Lay w) :
    Calls Tryd.prog 64 #[.int .i64 n] w fun e w' => e = .returned (.string (bs (Lib.decDigits n))) ∧ Below w.heap.size w w' := by
  refine (Tryd.strconv_Itoa n (by omega) (by omega) w hL.tab).mono ?_
  rintro e w' ⟨rfl, k, os, rfl⟩
  refine ⟨?_, Lib.below_grow _ _ (Nat.le_refl _) _ _⟩
  have : Lib.itoa (n : Int) = Lib.decDigits n := by unfold Lib.itoa; rw [if_neg (by omega)]; rfl
  rw [this]; rfl
/-- Eight words with a blank between each two. -/
def line8 (a b c d e f g h : List UInt8) : List UInt8 := a ++ [32] ++ b ++ [32] ++ c ++ [32] ++ d ++ [32] ++ e ++ [32] ++ f ++ [32] ++ g ++ [32] ++ h
/-- The text of an event. -/
def fmtL (e : Ev) : List UInt8 := line8 e.s.data.toList (Lib.decDigits e.n.toNat) (Lib.decDigits e.a.toNat) (kR e.k.toNat).word (pt e.p).data.toList (pt e.i).data.toList (Lib.decDigits e.v.toNat) (pt e.t).data.toList
theorem join_eq (a b c d e f g h : List UInt8) : Lib.join [a, b, c, d, e, f, g, h] [32] = line8 a b c d e f g h := by
  rw [Lib.join_cons]; unfold Lib.joinTail line8; simp
theorem cells8 {w : World} {bk : Nat} {a b c d e f g h : ByteArray} (hb : w.heap[bk]? = some (.cells #[.string a, .string b, .string c, .string d, .string e, .string f, .string g, .string h] 9 (0, 0))) : ∀ (j : Nat) x, [a, b, c, d, e, f, g, h][j]? = some x → w.cell? ⟨bk, 0 + j, none⟩ = some (.string x) := by
  intro j x hj
  rw [Nat.zero_add]
  match j, hj with
  | 0, hj => simp at hj; subst hj; simp [World.cell?, hb]
  | 1, hj => simp at hj; subst hj; simp [World.cell?, hb]
  | 2, hj => simp at hj; subst hj; simp [World.cell?, hb]
  | 3, hj => simp at hj; subst hj; simp [World.cell?, hb]
  | 4, hj => simp at hj; subst hj; simp [World.cell?, hb]
  | 5, hj => simp at hj; subst hj; simp [World.cell?, hb]
  | 6, hj => simp at hj; subst hj; simp [World.cell?, hb]
  | 7, hj => simp at hj; subst hj; simp [World.cell?, hb]
theorem join8 (a b c d e f g h : ByteArray) (bk : Nat) (w : World) (hb : w.heap[bk]? = some (.cells #[.string a, .string b, .string c, .string d, .string e, .string f, .string g, .string h] 9 (0, 0))) (hl : a.size + b.size + c.size + d.size + e.size + f.size + g.size + h.size ≤ 1000000) :
    Calls Tryd.prog 62 #[.slice (some ⟨bk, 0, none⟩) 8 8, .string ⟨#[32]⟩] w fun q w' => q = .returned (.string (bs (line8 a.data.toList b.data.toList c.data.toList d.data.toList e.data.toList f.data.toList g.data.toList h.data.toList))) ∧ Below w.heap.size w w' := by
  have hj := join_eq a.data.toList b.data.toList c.data.toList d.data.toList e.data.toList f.data.toList g.data.toList h.data.toList
  refine (Tryd.strings_Join bk 0 8 [a, b, c, d, e, f, g, h] ⟨#[32]⟩ w (cells8 hb) (lt_of_block hb) (by simp) (by simp) ?_).mono ?_
  · show (Lib.join [a.data.toList, b.data.toList, c.data.toList, d.data.toList, e.data.toList, f.data.toList, g.data.toList, h.data.toList] [32]).length ≤ _
    rw [hj]
    unfold line8
    simp
    omega
  · rintro q w' ⟨rfl, hw⟩
    refine ⟨?_, hw⟩
    show Ending.returned (.string (bs (Lib.join [a.data.toList, b.data.toList, c.data.toList, d.data.toList, e.data.toList, f.data.toList, g.data.toList, h.data.toList] [32]))) = _
    rw [hj]
theorem pt_size (s : ByteArray) : (pt s).size ≤ s.size + 1 := by
  unfold pt
  split
  · have : (ByteArray.mk #[46]).size = 1 := rfl
    omega
  · omega
theorem word_len : ∀ k, k < 15 → (kR k).word.length ≤ 10 := by decide
theorem may_src {e : Ev} (h : mayB e = true) : 1 ≤ e.s.size := by
  unfold mayB headB at h
  simp only [Bool.and_eq_true, decide_eq_true_eq] at h
  exact (nameB_size h.1.1.1.1.1.1).1
theorem fmt_eq (s : ByteArray) (n a k : Nat) (p i : ByteArray) (v : Nat) (t : ByteArray) (h : 1 ≤ s.size) : fmtL ⟨s, n, a, k, p, i, v, t⟩ = line8 (pt s).data.toList (bs (Lib.decDigits n)).data.toList (bs (Lib.decDigits a)).data.toList (bs (kR k).word).data.toList (pt p).data.toList (pt i).data.toList (bs (Lib.decDigits v)).data.toList (pt t).data.toList := by
  have e : pt s = s := by unfold pt; rw [if_neg (by omega)]
  rw [e, bs_data, bs_data, bs_data, bs_data]
  rfl
set_option maxRecDepth 100000 in
set_option maxHeartbeats 4000000 in
theorem fmt_no (s : ByteArray) (n a k : Int) (p i : ByteArray) (v : Int) (t : ByteArray) (ht : t.size ≤ 1000000000) (hm : mayB ⟨s, n, a, k, p, i, v, t⟩ = false) (w : World) (hL : Lay w) :
    Calls Tryd.prog 36 #[.agg #[.string s, .int .i64 n, .int .i64 a, .int .i64 k, .string p, .string i, .int .i64 v, .string t]] w fun e w' => e = .returned (.string ⟨#[]⟩) ∧ Below w.heap.size w w' := by
  have HL := Lib.hid hL
  have HM := Lib.hid hm
  clear hL hm
  go_enter Tryd.func36, Tryd.ntmps36
  go_wp2_with fail
  refine (may_any s n a k p i v t ht _ (HL.out.alloc _)).mono ?_
  rw [HM.out]
  rintro e w1 ⟨rfl, hb⟩
  have hb2 := ((Below.refl w.heap.size w).alloc (by simp) _).trans (hb.mono (by simp))
  clear hb
  go_wp2
  go_ret
  exact ⟨rfl, hb2⟩
set_option maxRecDepth 100000 in
set_option maxHeartbeats 8000000 in
theorem fmt_nat (s : ByteArray) (n a k : Nat) (p i : ByteArray) (v : Nat) (t : ByteArray) (hm : mayB ⟨s, n, a, k, p, i, v, t⟩ = true) (w : World) (hL : Lay w) :
    Calls Tryd.prog 36 #[.agg #[.string s, .int .i64 n, .int .i64 a, .int .i64 k, .string p, .string i, .int .i64 v, .string t]] w fun e w' => e = .returned (.string (bs (fmtL ⟨s, n, a, k, p, i, v, t⟩))) ∧ Below w.heap.size w w' := by
  obtain ⟨f1, f2, f3, f4, f5, f6, f7, f8⟩ := fit_of hm
  simp only at f1 f2 f3 f4 f5 f6 f7 f8
  obtain ⟨g1, g2⟩ := f5
  obtain ⟨g3, g4⟩ := f6
  obtain ⟨g5, g6⟩ := f7
  obtain ⟨g7, g8⟩ := f8
  have hk : k < 15 := by omega
  have m1 : n ≤ 9223372036854775807 := by omega
  have m2 : a ≤ 9223372036854775807 := by omega
  have m3 : v ≤ 9223372036854775807 := by omega
  have l1 : (bs (Lib.decDigits n)).size ≤ 19 := by rw [bs_size]; exact dec_len 18 n (by omega)
  have l2 : (bs (Lib.decDigits a)).size ≤ 19 := by rw [bs_size]; exact dec_len 18 a (by omega)
  have l3 : (bs (Lib.decDigits v)).size ≤ 19 := by rw [bs_size]; exact dec_len 18 v (by omega)
  have l4 : (bs (kR k).word).size ≤ 10 := by rw [bs_size]; exact word_len k hk
  have l5 := pt_size p
  have l6 := pt_size i
  have l7 := pt_size t
  have l8 := pt_size s
  have HE := Lib.hid (fmt_eq s n a k p i v t (may_src hm))
  have HL := Lib.hid hL
  have HM := Lib.hid hm
  clear hL hm
  go_enter Tryd.func36, Tryd.ntmps36
  go_wp2_with fail
  refine (may_any s n a k p i v t (by omega) _ (HL.out.alloc _)).mono ?_
  rw [HM.out]
  rintro e w1 ⟨rfl, hb⟩
  have M : FSt w ⟨s, n, a, k, p, i, v, t⟩ w1 := ⟨(EvAt.new w ⟨s, n, a, k, p, i, v, t⟩).below hb (by simp), (HL.out.alloc _).next hb, ((Below.refl w.heap.size w).alloc (by simp) _).trans (hb.mono (by simp))⟩
  have H0 := M.out k hk
  clear hb
  go_upto_region 3 with fail
  go_region_held3 (fun wx => (wx.cell? ⟨w.heap.size, 0, none⟩ = some (.string s) ∧ wx.cell? ⟨w.heap.size, 1, none⟩ = some (.int .i64 n) ∧ wx.cell? ⟨w.heap.size, 2, none⟩ = some (.int .i64 a) ∧ wx.cell? ⟨w.heap.size, 3, none⟩ = some (.int .i64 k) ∧ wx.cell? ⟨w.heap.size, 4, none⟩ = some (.string p) ∧ wx.cell? ⟨w.heap.size, 5, none⟩ = some (.string i) ∧ wx.cell? ⟨w.heap.size, 6, none⟩ = some (.int .i64 v) ∧ wx.cell? ⟨w.heap.size, 7, none⟩ = some (.string t) ∧ wx.cell? ⟨0, k * 6, none⟩ = some (.string (bs (kR k).word)) ∧ w.heap.size < wx.heap.size ∧ 0 < wx.heap.size) ∧ FSt w ⟨s, n, a, k, p, i, v, t⟩ wx)
    ((refine FSt.out ?_ k hk; repeat (first | exact M | refine FSt.drew ?_ | refine FSt.alloc ?_ _ | refine FSt.below ?_ (by assumption))))
    (first | (go_at_call 63; refine (wordOf_any _ _).mono ?_; rintro e w9 ⟨rfl, rfl⟩) | (go_at_call 64; refine (itoa_any _ (by assumption) _ (And.right (by assumption : _ ∧ FSt _ _ _)).lay).mono ?_; rintro e w9 ⟨rfl, hb9⟩) | (go_at_call 62; refine (join8 _ _ _ _ _ _ _ _ _ _ (heap_alloc_new _ _) (by omega)).mono ?_; rintro e w9 ⟨rfl, hb9⟩))
  all_goals (go_wp2_with fail)
  all_goals go_ret
  all_goals (refine ⟨?_, (‹_ ∧ FSt _ _ _›).2.bw⟩)
  all_goals (rw [HE.out]; rfl)
end Go.Proofs.YthfhfekneahonaaDoor
