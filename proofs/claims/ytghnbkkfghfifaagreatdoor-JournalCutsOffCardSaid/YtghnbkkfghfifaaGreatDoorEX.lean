/- The event with which bytes begin: the program's. -/
import Derived.Test.YtghnbkkfghfifaaGreatDoorEW
namespace Go.Proofs.YtghnbkkfghfifaaGreatDoor.E
open Go.RowKit
set_option linter.unusedVariables false
theorem Seen.shape {w : World} {B : Nat} {v : Value} {l : List UInt8} (hv : Seen w B v l) : ∃ p cap, v = .slice p l.length cap := by
  rcases hv with ⟨rfl, rfl⟩ | ⟨ad, cap, rfl, hc, hg, hh⟩
  · exact ⟨none, 0, rfl⟩
  · exact ⟨_, _, rfl⟩
theorem EvAt.frz {w : World} {b : Nat} {e : Ev} (h : EvAt w b e) : w.frozen? ⟨b, 0, none⟩ = false ∧ w.frozen? ⟨b, 1, none⟩ = false ∧ w.frozen? ⟨b, 2, none⟩ = false ∧ w.frozen? ⟨b, 3, none⟩ = false ∧ w.frozen? ⟨b, 4, none⟩ = false ∧ w.frozen? ⟨b, 5, none⟩ = false ∧ w.frozen? ⟨b, 6, none⟩ = false ∧ w.frozen? ⟨b, 7, none⟩ = false := by
  unfold EvAt at h
  refine ⟨?_, ?_, ?_, ?_, ?_, ?_, ?_, ?_⟩ <;> simp [World.frozen?, h]
theorem EvAt.other {w : World} {b : Nat} {e : Ev} (h : EvAt w b e) {a : Addr} (ha : b ≠ a.block) (u : Value) : EvAt (w.setCell a u) b e := by
  unfold EvAt; rw [Below.heap_setCell _ _ _ _ ha]; exact h
theorem EvAt.only {w w' : World} {b c : Nat} {e : Ev} (h : EvAt w b e) (ho : Only c w w') (hc : b ≠ c) : EvAt w' b e := by
  unfold EvAt; rw [ho.block b hc]; exact h
def zeroE : Ev := ⟨⟨#[]⟩, 0, 0, 0, ⟨#[]⟩, ⟨#[]⟩, 0, ⟨#[]⟩⟩
theorem EvAt.s0 {w : World} {b : Nat} {e : Ev} (h : EvAt w b e) (x : ByteArray) : EvAt (w.setCell ⟨b, 0, none⟩ (.string x)) b { e with s := x } := by
  unfold EvAt at *
  simp [World.setCell, Array.getElem?_modify, h]
theorem EvAt.s1 {w : World} {b : Nat} {e : Ev} (h : EvAt w b e) (x : Int) : EvAt (w.setCell ⟨b, 1, none⟩ (.int .i64 x)) b { e with n := x } := by
  unfold EvAt at *
  simp [World.setCell, Array.getElem?_modify, h]
theorem EvAt.s2 {w : World} {b : Nat} {e : Ev} (h : EvAt w b e) (x : Int) : EvAt (w.setCell ⟨b, 2, none⟩ (.int .i64 x)) b { e with a := x } := by
  unfold EvAt at *
  simp [World.setCell, Array.getElem?_modify, h]
theorem EvAt.s3 {w : World} {b : Nat} {e : Ev} (h : EvAt w b e) (x : Int) : EvAt (w.setCell ⟨b, 3, none⟩ (.int .i64 x)) b { e with k := x } := by
  unfold EvAt at *
  simp [World.setCell, Array.getElem?_modify, h]
theorem EvAt.s4 {w : World} {b : Nat} {e : Ev} (h : EvAt w b e) (x : ByteArray) : EvAt (w.setCell ⟨b, 4, none⟩ (.string x)) b { e with p := x } := by
  unfold EvAt at *
  simp [World.setCell, Array.getElem?_modify, h]
theorem EvAt.s5 {w : World} {b : Nat} {e : Ev} (h : EvAt w b e) (x : ByteArray) : EvAt (w.setCell ⟨b, 5, none⟩ (.string x)) b { e with i := x } := by
  unfold EvAt at *
  simp [World.setCell, Array.getElem?_modify, h]
theorem EvAt.s6 {w : World} {b : Nat} {e : Ev} (h : EvAt w b e) (x : Int) : EvAt (w.setCell ⟨b, 6, none⟩ (.int .i64 x)) b { e with v := x } := by
  unfold EvAt at *
  simp [World.setCell, Array.getElem?_modify, h]
theorem EvAt.s7 {w : World} {b : Nat} {e : Ev} (h : EvAt w b e) (x : ByteArray) : EvAt (w.setCell ⟨b, 7, none⟩ (.string x)) b { e with t := x } := by
  unfold EvAt at *
  simp [World.setCell, Array.getElem?_modify, h]
theorem EvAt.put {w : World} {b : Nat} {e : Ev} (h : EvAt w b e) (s : ByteArray) (n a k : Int) (p i : ByteArray) (v : Int) (t : ByteArray) : EvAt ((((((((w.setCell ⟨b, 0, none⟩ (.string s)).setCell ⟨b, 1, none⟩ (.int .i64 n)).setCell ⟨b, 2, none⟩ (.int .i64 a)).setCell ⟨b, 3, none⟩ (.int .i64 k)).setCell ⟨b, 4, none⟩ (.string p)).setCell ⟨b, 5, none⟩ (.string i)).setCell ⟨b, 6, none⟩ (.int .i64 v)).setCell ⟨b, 7, none⟩ (.string t)) b ⟨s, n, a, k, p, i, v, t⟩ := by
  have h0 := h.s0 s
  have h1 := h0.s1 n
  have h2 := h1.s2 a
  have h3 := h2.s3 k
  have h4 := h3.s4 p
  have h5 := h4.s5 i
  have h6 := h5.s6 v
  exact h6.s7 t
theorem EvAt.drew {w : World} {b : Nat} {e : Ev} (h : EvAt w b e) : EvAt w.drew b e := h
theorem below_put {W w : World} {b : Nat} (h : Below W.heap.size W w) (hB : W.heap.size ≤ b) (s : ByteArray) (n a k : Int) (p i : ByteArray) (v : Int) (t : ByteArray) : Below W.heap.size W ((((((((w.setCell ⟨b, 0, none⟩ (.string s)).setCell ⟨b, 1, none⟩ (.int .i64 n)).setCell ⟨b, 2, none⟩ (.int .i64 a)).setCell ⟨b, 3, none⟩ (.int .i64 k)).setCell ⟨b, 4, none⟩ (.string p)).setCell ⟨b, 5, none⟩ (.string i)).setCell ⟨b, 6, none⟩ (.int .i64 v)).setCell ⟨b, 7, none⟩ (.string t)) := ((((((((h.setCell hB _).setCell hB _).setCell hB _).setCell hB _).setCell hB _).setCell hB _).setCell hB _).setCell hB _)
/-- The three blocks of Decode. -/
structure DB (W : World) (e : Ev) (x : Rd Unit) (w : World) : Prop where
  r : EvAt w W.heap.size zeroE
  st : RSt w (W.heap.size + 1) x
  ev : EvAt w (W.heap.size + 1 + 1) e
  bw : Below W.heap.size W w
theorem RSt.other {w : World} {b : Nat} {x : Rd Unit} (h : RSt w b x) {a : Addr} (ha : b < a.block) (u : Value) : RSt (w.setCell a u) b x := by
  have ho : Below a.block w (w.setCell a u) := (Below.refl _ _).setCell (Nat.le_refl _) u
  cases x with
  | bad c => obtain ⟨hc, v, h1⟩ := h; exact ⟨hc, v, h1.other (by omega) u⟩
  | ok y r => obtain ⟨v, h1, h2⟩ := h; exact ⟨v, h1.other (by omega) u, h2.below ho (by omega)⟩
theorem DB.step {W w w' : World} {e : Ev} {x x' : Rd Unit} (h : DB W e x w) (h1 : RSt w' (W.heap.size + 1) x') (h2 : Only (W.heap.size + 1) w w') : DB W e x' w' :=
  ⟨h.r.only h2 (by omega), h1, h.ev.only h2 (by omega), h.bw.trans (h2.below (by omega))⟩
theorem DB.s0 {W w : World} {e : Ev} {x : Rd Unit} (h : DB W e x w) (y : ByteArray) : DB W { e with s := y } x (w.setCell ⟨W.heap.size + 1 + 1, 0, none⟩ (.string y)) := ⟨h.r.other (by simp; omega) _, h.st.other (by simp) _, h.ev.s0 y, h.bw.setCell (by simp; omega) _⟩
theorem DB.s1 {W w : World} {e : Ev} {x : Rd Unit} (h : DB W e x w) (y : Int) : DB W { e with n := y } x (w.setCell ⟨W.heap.size + 1 + 1, 1, none⟩ (.int .i64 y)) := ⟨h.r.other (by simp; omega) _, h.st.other (by simp) _, h.ev.s1 y, h.bw.setCell (by simp; omega) _⟩
theorem DB.s2 {W w : World} {e : Ev} {x : Rd Unit} (h : DB W e x w) (y : Int) : DB W { e with a := y } x (w.setCell ⟨W.heap.size + 1 + 1, 2, none⟩ (.int .i64 y)) := ⟨h.r.other (by simp; omega) _, h.st.other (by simp) _, h.ev.s2 y, h.bw.setCell (by simp; omega) _⟩
theorem DB.s3 {W w : World} {e : Ev} {x : Rd Unit} (h : DB W e x w) (y : Int) : DB W { e with k := y } x (w.setCell ⟨W.heap.size + 1 + 1, 3, none⟩ (.int .i64 y)) := ⟨h.r.other (by simp; omega) _, h.st.other (by simp) _, h.ev.s3 y, h.bw.setCell (by simp; omega) _⟩
theorem DB.s4 {W w : World} {e : Ev} {x : Rd Unit} (h : DB W e x w) (y : ByteArray) : DB W { e with p := y } x (w.setCell ⟨W.heap.size + 1 + 1, 4, none⟩ (.string y)) := ⟨h.r.other (by simp; omega) _, h.st.other (by simp) _, h.ev.s4 y, h.bw.setCell (by simp; omega) _⟩
theorem DB.s5 {W w : World} {e : Ev} {x : Rd Unit} (h : DB W e x w) (y : ByteArray) : DB W { e with i := y } x (w.setCell ⟨W.heap.size + 1 + 1, 5, none⟩ (.string y)) := ⟨h.r.other (by simp; omega) _, h.st.other (by simp) _, h.ev.s5 y, h.bw.setCell (by simp; omega) _⟩
theorem DB.s6 {W w : World} {e : Ev} {x : Rd Unit} (h : DB W e x w) (y : Int) : DB W { e with v := y } x (w.setCell ⟨W.heap.size + 1 + 1, 6, none⟩ (.int .i64 y)) := ⟨h.r.other (by simp; omega) _, h.st.other (by simp) _, h.ev.s6 y, h.bw.setCell (by simp; omega) _⟩
theorem DB.s7 {W w : World} {e : Ev} {x : Rd Unit} (h : DB W e x w) (y : ByteArray) : DB W { e with t := y } x (w.setCell ⟨W.heap.size + 1 + 1, 7, none⟩ (.string y)) := ⟨h.r.other (by simp; omega) _, h.st.other (by simp) _, h.ev.s7 y, h.bw.setCell (by simp; omega) _⟩
theorem DB.start {w : World} {p : Option Addr} {cap : Nat} {l : List UInt8} (hv : Seen w w.heap.size (.slice p l.length cap) l) : DB w zeroE (.ok () l) (((w.alloc (.cells #[.string ⟨#[]⟩, .int .i64 0, .int .i64 0, .int .i64 0, .string ⟨#[]⟩, .string ⟨#[]⟩, .int .i64 0, .string ⟨#[]⟩] 52)).alloc (.cells #[.slice p l.length cap, .int .i64 0] 169)).alloc (.cells #[.string ⟨#[]⟩, .int .i64 0, .int .i64 0, .int .i64 0, .string ⟨#[]⟩, .string ⟨#[]⟩, .int .i64 0, .string ⟨#[]⟩] 52)) := by
  have b1 : Below w.heap.size w (((w.alloc (.cells #[.string ⟨#[]⟩, .int .i64 0, .int .i64 0, .int .i64 0, .string ⟨#[]⟩, .string ⟨#[]⟩, .int .i64 0, .string ⟨#[]⟩] 52)).alloc (.cells #[.slice p l.length cap, .int .i64 0] 169)).alloc (.cells #[.string ⟨#[]⟩, .int .i64 0, .int .i64 0, .int .i64 0, .string ⟨#[]⟩, .string ⟨#[]⟩, .int .i64 0, .string ⟨#[]⟩] 52)) := (((Below.refl w.heap.size w).alloc (by simp) _).alloc (by simp) _).alloc (by simp; omega) _
  refine ⟨((EvAt.new w zeroE).alloc _).alloc _, ⟨_, ?_, (hv.below b1 (Nat.le_refl _)).mono (by omega)⟩, ?_, b1⟩
  · unfold Blk2
    rw [Below.heap_alloc _ _ _ (by simp)]
    have := heap_alloc_new (w.alloc (.cells #[.string ⟨#[]⟩, .int .i64 0, .int .i64 0, .int .i64 0, .string ⟨#[]⟩, .string ⟨#[]⟩, .int .i64 0, .string ⟨#[]⟩] 52)) (.cells #[.slice p l.length cap, .int .i64 0] 169)
    rw [World.size_alloc] at this
    exact this
  · have := EvAt.new ((w.alloc (.cells #[.string ⟨#[]⟩, .int .i64 0, .int .i64 0, .int .i64 0, .string ⟨#[]⟩, .string ⟨#[]⟩, .int .i64 0, .string ⟨#[]⟩] 52)).alloc (.cells #[.slice p l.length cap, .int .i64 0] 169)) zeroE
    simp only [World.size_alloc] at this
    exact this
theorem txt_size {x : Rd Unit} : ((rTxt x).val ⟨#[]⟩).size ≤ 1000000000 := by
  cases x with
  | bad c => exact Nat.zero_le _
  | ok u l =>
    cases l with
    | nil => exact Nat.zero_le _
    | cons c r =>
      show (Rd.val ⟨#[]⟩ (if r.length < c.toNat then Rd.bad 3 else Rd.ok (bs (r.take c.toNat)) (r.drop c.toNat))).size ≤ _
      split
      · exact Nat.zero_le _
      · have := c.toNat_lt
        show (bs (r.take c.toNat)).size ≤ _
        have e : (bs (r.take c.toNat)).size = (r.take c.toNat).length := rfl
        rw [e, List.length_take]; omega
/-- What the reading gives, one field behind the other. -/
structure Chain (l : List UInt8) (k : UInt8) (s : ByteArray) (n a : Nat) (p i : ByteArray) (v : Nat) (t : ByteArray) (x1 x2 x3 x4 x5 x6 x7 x8 : Rd Unit) : Prop where
  hk : (rOne (.ok () l)).val 0 = k
  g1 : (rOne (.ok () l)).st = x1
  hs : (rTxt x1).val ⟨#[]⟩ = s
  g2 : (rTxt x1).st = x2
  hn : (rNum x2).val 0 = n
  g3 : (rNum x2).st = x3
  ha : (rNum x3).val 0 = a
  g4 : (rNum x3).st = x4
  hp : (rTxt x4).val ⟨#[]⟩ = p
  g5 : (rTxt x4).st = x5
  hi : (rTxt x5).val ⟨#[]⟩ = i
  g6 : (rTxt x5).st = x6
  hv : (rNum x6).val 0 = v
  g7 : (rNum x6).st = x7
  ht : (rTxt x7).val ⟨#[]⟩ = t
  g8 : (rTxt x7).st = x8
theorem chain (l : List UInt8) : ∃ k s n a p i v t x1 x2 x3 x4 x5 x6 x7 x8, Chain l k s n a p i v t x1 x2 x3 x4 x5 x6 x7 x8 := ⟨_, _, _, _, _, _, _, _, _, _, _, _, _, _, _, _, rfl, rfl, rfl, rfl, rfl, rfl, rfl, rfl, rfl, rfl, rfl, rfl, rfl, rfl, rfl, rfl⟩
theorem bind_ok {α β : Type} (a : α) (r : List UInt8) (f : α → List UInt8 → Rd β) : (Rd.ok a r).bind f = f a r := rfl
theorem bind_bad {α β : Type} (c : Int) (f : α → List UInt8 → Rd β) : (Rd.bad c).bind f = .bad c := rfl
theorem st_ok {α : Type} (a : α) (r : List UInt8) : (Rd.ok a r).st = .ok () r := rfl
theorem st_bad {α : Type} (c : Int) : (Rd.bad c : Rd α).st = .bad c := rfl
theorem val_ok {α : Type} (a d : α) (r : List UInt8) : (Rd.ok a r).val d = a := rfl
theorem rOne_ok (u : Unit) (r : List UInt8) : rOne (.ok u r) = rdOne r := rfl
theorem rTxt_ok (u : Unit) (r : List UInt8) : rTxt (.ok u r) = rdTxt r := rfl
theorem rNum_ok (u : Unit) (r : List UInt8) : rNum (.ok u r) = rdNum r := rfl
theorem rTxt_bad (c : Int) : rTxt (.bad c) = .bad c := rfl
theorem rNum_bad (c : Int) : rNum (.bad c) = .bad c := rfl
/-- .. is what the bytes are. -/
theorem Chain.ev {l : List UInt8} {k : UInt8} {s : ByteArray} {n a : Nat} {p i : ByteArray} {v : Nat} {t : ByteArray} {x1 x2 x3 x4 x5 x6 x7 x8 : Rd Unit} (h : Chain l k s n a p i v t x1 x2 x3 x4 x5 x6 x7 x8) :
    rdEv l = x8.bind fun _ r => .ok ⟨s, n, a, k.toNat, p, i, v, t⟩ r := by
  obtain ⟨rfl, rfl, rfl, rfl, rfl, rfl, rfl, rfl, rfl, rfl, rfl, rfl, rfl, rfl, rfl, rfl⟩ := h
  unfold rdEv
  simp only [rOne_ok]
  cases rdOne l with
  | bad c => simp only [bind_bad, st_bad, rTxt_bad, rNum_bad]
  | ok k r1 =>
    simp only [bind_ok, st_ok, val_ok, rTxt_ok]
    cases rdTxt r1 with
    | bad c => simp only [bind_bad, st_bad, rTxt_bad, rNum_bad]
    | ok s r2 =>
      simp only [bind_ok, st_ok, val_ok, rNum_ok]
      cases rdNum r2 with
      | bad c => simp only [bind_bad, st_bad, rTxt_bad, rNum_bad]
      | ok n r3 =>
        simp only [bind_ok, st_ok, val_ok, rNum_ok]
        cases rdNum r3 with
        | bad c => simp only [bind_bad, st_bad, rTxt_bad, rNum_bad]
        | ok a r4 =>
          simp only [bind_ok, st_ok, val_ok, rTxt_ok]
          cases rdTxt r4 with
          | bad c => simp only [bind_bad, st_bad, rTxt_bad, rNum_bad]
          | ok p r5 =>
            simp only [bind_ok, st_ok, val_ok, rTxt_ok]
            cases rdTxt r5 with
            | bad c => simp only [bind_bad, st_bad, rTxt_bad, rNum_bad]
            | ok i r6 =>
              simp only [bind_ok, st_ok, val_ok, rNum_ok]
              cases rdNum r6 with
              | bad c => simp only [bind_bad, st_bad, rTxt_bad]
              | ok v r7 =>
                simp only [bind_ok, st_ok, val_ok, rTxt_ok]
                cases rdTxt r7 with
                | bad c => simp only [bind_bad, st_bad]
                | ok t r8 =>
                  simp only [bind_ok, st_ok, val_ok]
end Go.Proofs.YtghnbkkfghfifaaGreatDoor.E
