/- The reader: its block, the bytes that a slice shows; take, one. -/
import Derived.Test.YtghnbkkfghfifaaGreatDoorER
import Derived.Deep.MidRow
namespace Go.Proofs.YtghnbkkfghfifaaGreatDoor.E
open Go.RowKit
set_option linter.unusedVariables false
/-- A block of two cells. -/
def Blk2 (w : World) (b : Nat) (x y : Value) (t : TypeId) : Prop := w.heap[b]? = some (.cells #[x, y] t (0, 0))
theorem Blk2.lt {w : World} {b : Nat} {x y : Value} {t : TypeId} (h : Blk2 w b x y t) : b < w.heap.size := lt_of_block h
theorem Blk2.set0 {w : World} {b : Nat} {x y : Value} {t : TypeId} (h : Blk2 w b x y t) (u : Value) : Blk2 (w.setCell ⟨b, 0, none⟩ u) b u y t := by
  unfold Blk2 at *
  simp [World.setCell, Array.getElem?_modify, h]
theorem Blk2.set1 {w : World} {b : Nat} {x y : Value} {t : TypeId} (h : Blk2 w b x y t) (u : Value) : Blk2 (w.setCell ⟨b, 1, none⟩ u) b x u t := by
  unfold Blk2 at *
  simp [World.setCell, Array.getElem?_modify, h]
theorem Blk2.other {w : World} {b : Nat} {x y : Value} {t : TypeId} (h : Blk2 w b x y t) {a : Addr} (ha : b ≠ a.block) (u : Value) : Blk2 (w.setCell a u) b x y t := by
  unfold Blk2; rw [Below.heap_setCell _ _ _ _ ha]; exact h
theorem Blk2.all {w : World} {b : Nat} {x y : Value} {t : TypeId} (h : Blk2 w b x y t) : w.cell? ⟨b, 0, none⟩ = some x ∧ w.cell? ⟨b, 1, none⟩ = some y ∧ w.frozen? ⟨b, 0, none⟩ = false ∧ w.frozen? ⟨b, 1, none⟩ = false := by
  unfold Blk2 at h
  refine ⟨?_, ?_, ?_, ?_⟩ <;> simp [World.cell?, World.frozen?, h]
/-- But for one block all is as it was. -/
structure Only (b : Nat) (w w' : World) : Prop where
  os : w'.os = w.os
  tape : w'.tape = w.tape
  output : w'.output = w.output
  size : w'.heap.size = w.heap.size
  block : ∀ k, k ≠ b → w'.heap[k]? = w.heap[k]?
theorem Only.refl (b : Nat) (w : World) : Only b w w := ⟨rfl, rfl, rfl, rfl, fun _ _ => rfl⟩
theorem Only.trans {b : Nat} {w w' w'' : World} (h : Only b w w') (k : Only b w' w'') : Only b w w'' := ⟨k.os.trans h.os, k.tape.trans h.tape, k.output.trans h.output, k.size.trans h.size, fun i hi => (k.block i hi).trans (h.block i hi)⟩
theorem Only.drew {b : Nat} {w w' : World} (h : Only b w w') : Only b w w'.drew := ⟨h.os, h.tape, h.output, h.size, h.block⟩
theorem Only.set {b : Nat} {w w' : World} (h : Only b w w') {a : Addr} (ha : a.block = b) (u : Value) : Only b w (w'.setCell a u) :=
  h.trans ⟨rfl, rfl, rfl, by simp [World.setCell], fun k hk => Below.heap_setCell _ _ _ _ (by omega)⟩
theorem Only.below {b B : Nat} {w w' : World} (h : Only b w w') (hB : B ≤ b) : Below B w w' := ⟨h.os, h.tape, h.output, by rw [h.size]; exact Nat.le_refl _, fun k hk => h.block k (by omega)⟩
/-- A slice shows these bytes; they lie below B. -/
def Seen (w : World) (B : Nat) (v : Value) (l : List UInt8) : Prop :=
  (l = [] ∧ v = .slice none 0 0) ∨ ∃ (ad : Addr) (cap : Nat), v = .slice (some ad) l.length cap ∧ l.length ≤ cap ∧ (0 < l.length → ad.block < B) ∧ ∀ (j : Nat) (hj : j < l.length), w.cell? (ad.add j) = some (.int .u8 (l[j].toNat : Int))
theorem add_block (a : Addr) (j : Nat) : (a.add j).block = a.block := by unfold Addr.add; split <;> rfl
theorem Seen.only {w w' : World} {b : Nat} {v : Value} {l : List UInt8} (h : Seen w b v l) (hb : Only b w w') : Seen w' b v l := by
  rcases h with h | ⟨ad, cap, hv, hc, hg, hh⟩
  · exact .inl h
  · refine .inr ⟨ad, cap, hv, hc, hg, fun j hj => ?_⟩
    rw [World.cell?_of_block (w := w) (a := ad.add j) (hb.block _ (by rw [add_block]; have := hg (by omega); omega))]; exact hh j hj
theorem Seen.below {w w' : World} {B b : Nat} {v : Value} {l : List UInt8} (h : Seen w b v l) (hb : Below B w w') (hl : b ≤ B) : Seen w' b v l := by
  rcases h with h | ⟨ad, cap, hv, hc, hg, hh⟩
  · exact .inl h
  · refine .inr ⟨ad, cap, hv, hc, hg, fun j hj => ?_⟩
    rw [World.cell?_of_block (w := w) (a := ad.add j) (hb.block _ (by rw [add_block]; have := hg (by omega); omega))]; exact hh j hj
theorem Seen.mono {w : World} {B b : Nat} {v : Value} {l : List UInt8} (h : Seen w b v l) (hl : b ≤ B) : Seen w B v l := by
  rcases h with h | ⟨ad, cap, hv, hc, hg, hh⟩
  · exact .inl h
  · exact .inr ⟨ad, cap, hv, hc, fun h0 => by have := hg h0; omega, hh⟩
theorem Seen.own {w : World} {base : Nat} {v : Value} {l : List UInt8} (h : OwnB w base v l) (hl : 0 < l.length) : Seen w w.heap.size v l := by
  obtain ⟨g, cap, rfl, hg, hh⟩ := World.ownsRow.form (w := w) h hl
  have hlt : g < w.heap.size := by
    rcases h.2 with ⟨_, h0⟩ | ⟨g', cap', cur, hv, hb, hgg, _⟩
    · omega
    · cases hv; exact lt_of_block hgg
  have hle : l.length ≤ cap := by
    rcases h.2 with ⟨_, h0⟩ | ⟨g', cap', cur, hv, hb, hgg, hc, _⟩
    · omega
    · cases hv; exact hc
  refine .inr ⟨⟨g, 0, none⟩, cap, rfl, hle, fun _ => hlt, fun j hj => ?_⟩
  refine own_cells h j _ ?_
  unfold u8s
  rw [List.getElem?_map, List.getElem?_eq_getElem hj]
  rfl
/-- Its text. -/
theorem Seen.text {w : World} {B : Nat} {v : Value} {l : List UInt8} (h : Seen w B v l) : (convert 38 9 v).run Tryz.prog w = .ok (.string (bs l)) w := by
  rcases h with ⟨rfl, rfl⟩ | ⟨ad, cap, rfl, hc, hg, hh⟩
  · rw [run_convert_bytes_string (P := Tryz.prog) w 38 9 5 none 0 0 Tryz.underlying38 Tryz.underlying5 Tryz.underlying9]
    rfl
  · exact run_convert_bytes_back (P := Tryz.prog) w 38 9 5 ad cap l Tryz.underlying38 Tryz.underlying5 Tryz.underlying9 (fun j hj => hh j hj)
theorem Seen.nil {w : World} {B : Nat} {ad : Addr} {cap : Nat} {n : Nat} (hn : n = 0) : Seen w B (.slice (some ad) n cap) [] := by
  subst hn
  exact .inr ⟨ad, cap, rfl, by simp, fun h => by simp at h, fun j hj => by simp at hj⟩
theorem Seen.mk {w : World} {B : Nat} {ad : Addr} {cap n : Nat} {l : List UInt8} (hn : n = l.length) (hc : l.length ≤ cap) (hg : 0 < l.length → ad.block < B) (hh : ∀ (j : Nat) (hj : j < l.length), w.cell? (ad.add j) = some (.int .u8 (l[j].toNat : Int))) : Seen w B (.slice (some ad) n cap) l := by
  subst hn
  exact .inr ⟨ad, cap, rfl, hc, hg, hh⟩
set_option maxRecDepth 100000 in
theorem take_ok (b n : Nat) (v : Value) (l : List UInt8) (hn : n ≤ l.length) (w : World) (hb : Blk2 w b v (.int .i64 0) 169) (hv : Seen w b v l) :
    Calls Tryz.prog 142 #[.pointer (some ⟨b, 0, none⟩), .int .i64 n] w fun e w' => ∃ v' v'', e = .returned v' ∧ Seen w' b v' (l.take n) ∧ Blk2 w' b v'' (.int .i64 0) 169 ∧ Seen w' b v'' (l.drop n) ∧ Only b w w' := by
  have hlt := hb.lt
  rcases hv with ⟨rfl, rfl⟩ | ⟨ad, cap, rfl, hc, hg, hh⟩
  · have hn0 : n = 0 := by simpa using hn
    subst hn0
    obtain ⟨c0, c1, f0, f1⟩ := hb.all
    go_enter Tryz.func142, Tryz.ntmps142
    go_wp2_with fail
    go_ret
    exact ⟨_, _, rfl, .inl ⟨rfl, rfl⟩, hb.set0 _, .inl ⟨rfl, rfl⟩, (Only.refl b w).set (a := ⟨b, 0, none⟩) rfl _⟩
  · obtain ⟨c0, c1, f0, f1⟩ := hb.all
    have h1 : decide ((l.length : Int) < (n : Int)) = false := by simp; omega
    have h2 : decide (l.length < n) = false := by simp; omega
    have h3 : n ≤ cap := by omega
    have HO : ∀ u, Only b w (w.setCell ⟨b, 0, none⟩ u) := fun u => (Only.refl b w).set (a := ⟨b, 0, none⟩) rfl _
    have HS : ∀ u, Seen (w.setCell ⟨b, 0, none⟩ u) b (.slice (some ad) n cap) (l.take n) := fun u => Seen.only (Seen.mk (by rw [List.length_take]; omega) (by rw [List.length_take]; omega) (fun h0 => hg (by rw [List.length_take] at h0; omega)) (fun j hj => by
      rw [List.length_take] at hj
      rw [hh j (by omega), List.getElem_take])) (HO u)
    have HD : ∀ u, Seen (w.setCell ⟨b, 0, none⟩ u) b (.slice (some (ad.add n)) (l.length - n) (cap - n)) (l.drop n) := fun u => Seen.only (Seen.mk (by rw [List.length_drop]) (by rw [List.length_drop]; omega) (fun h0 => by rw [add_block]; exact hg (by rw [List.length_drop] at h0; omega)) (fun j hj => by
      rw [List.length_drop] at hj
      have := hh (n + j) (by omega)
      rw [Addr.add_add, this, List.getElem_drop])) (HO u)
    have KO := Lib.hid HO
    have KS := Lib.hid HS
    have KD := Lib.hid HD
    clear hh HO HS HD
    by_cases hcn : cap = n
    · have hd : l.drop n = [] := List.drop_of_length_le (by omega)
      have KZ := Lib.hid (show l.length - n = 0 by omega)
      have KE := Lib.hid hd
      clear hd
      go_enter Tryz.func142, Tryz.ntmps142
      go_wp2_with fail
      go_ret
      refine ⟨_, _, rfl, by have := KS.out; rw [hcn] at this; exact this _, hb.set0 _, ?_, KO.out _⟩
      rw [KE.out]; exact Seen.nil KZ.out
    · go_enter Tryz.func142, Tryz.ntmps142
      go_wp2_with fail
      go_ret
      exact ⟨_, _, rfl, KS.out _, hb.set0 _, KD.out _, KO.out _⟩
set_option maxRecDepth 100000 in
theorem take_torn (b n : Nat) (v : Value) (l : List UInt8) (hn : l.length < n) (w : World) (hb : Blk2 w b v (.int .i64 0) 169) (hv : Seen w b v l) :
    Calls Tryz.prog 142 #[.pointer (some ⟨b, 0, none⟩), .int .i64 n] w fun e w' => e = .returned (.slice none 0 0) ∧ Blk2 w' b v (.int .i64 3) 169 ∧ Only b w w' := by
  have hlt := hb.lt
  have hL : ∃ p cap, v = .slice p l.length cap := by
    rcases hv with ⟨rfl, rfl⟩ | ⟨ad, cap, rfl, hc, hg, hh⟩
    · exact ⟨none, 0, rfl⟩
    · exact ⟨_, _, rfl⟩
  obtain ⟨p, cap, rfl⟩ := hL
  obtain ⟨c0, c1, f0, f1⟩ := hb.all
  have h1 : decide ((l.length : Int) < (n : Int)) = true := by simp; omega
  have h2 : decide (l.length < n) = true := by simp; omega
  go_enter Tryz.func142, Tryz.ntmps142
  go_wp2_with fail
  go_ret
  exact ⟨rfl, hb.set1 _, (Only.refl b w).set (a := ⟨b, 1, none⟩) rfl _⟩
set_option maxRecDepth 100000 in
theorem take_bad (b : Nat) (n : Int) (v : Value) (c : Int) (hc : (c == 0) = false) (w : World) (hb : Blk2 w b v (.int .i64 c) 169) :
    Calls Tryz.prog 142 #[.pointer (some ⟨b, 0, none⟩), .int .i64 n] w fun e w' => e = .returned (.slice none 0 0) ∧ w' = w := by
  have hlt := hb.lt
  have hc2 : (c = 0) = False := by simpa using hc
  obtain ⟨c0, c1, f0, f1⟩ := hb.all
  go_enter Tryz.func142, Tryz.ntmps142
  go_wp2_with fail
  go_ret
  exact ⟨rfl, rfl⟩
def Rd.st {α : Type} : Rd α → Rd Unit
  | .ok _ r => .ok () r
  | .bad c => .bad c
def Rd.val {α : Type} (d : α) : Rd α → α
  | .ok x _ => x
  | .bad _ => d
/-- How the reader stands. -/
def RSt (w : World) (b : Nat) : Rd Unit → Prop
  | .ok _ r => ∃ v, Blk2 w b v (.int .i64 0) 169 ∧ Seen w b v r
  | .bad c => (c == 0) = false ∧ ∃ v, Blk2 w b v (.int .i64 c) 169
theorem RSt.lt {w : World} {b : Nat} {x : Rd Unit} (h : RSt w b x) : b < w.heap.size := by
  cases x with
  | ok u r => obtain ⟨v, h, _⟩ := h; exact h.lt
  | bad c => obtain ⟨_, v, h⟩ := h; exact h.lt
def rOne (x : Rd Unit) : Rd UInt8 := x.bind fun _ l => rdOne l
def rTxt (x : Rd Unit) : Rd ByteArray := x.bind fun _ l => rdTxt l
def rNum (x : Rd Unit) : Rd Nat := x.bind fun _ l => rdNum l
set_option maxRecDepth 100000 in
theorem one_any (b : Nat) (x : Rd Unit) (w : World) (hx : RSt w b x) :
    Calls Tryz.prog 125 #[.pointer (some ⟨b, 0, none⟩)] w fun e w' => e = .returned (.int .u8 (((rOne x).val 0).toNat : Nat)) ∧ RSt w' b (rOne x).st ∧ Only b w w' := by
  cases x with
  | bad c =>
    obtain ⟨hc, v, hb⟩ := hx
    have HC := Lib.hid hc
    have HB := Lib.hid hb
    clear hc hb
    go_enter Tryz.func125, Tryz.ntmps125
    go_wp2_with fail
    refine (take_bad b 1 v c HC.out _ HB.out).mono ?_
    rintro e w1 ⟨rfl, rfl⟩
    go_wp2_with fail
    go_ret
    exact ⟨rfl, ⟨HC.out, v, HB.out⟩, Only.refl _ _⟩
  | ok u l =>
    obtain ⟨v, hb, hv⟩ := hx
    have HB := Lib.hid hb
    have HV := Lib.hid hv
    clear hb hv
    cases l with
    | nil =>
      go_enter Tryz.func125, Tryz.ntmps125
      go_wp2_with fail
      refine (take_torn b 1 v [] (by simp) _ HB.out HV.out).mono ?_
      rintro e w1 ⟨rfl, h1, h2⟩
      go_wp2_with fail
      go_ret
      exact ⟨rfl, ⟨rfl, v, h1⟩, h2⟩
    | cons c r =>
      go_enter Tryz.func125, Tryz.ntmps125
      go_wp2_with fail
      refine (take_ok b 1 v (c :: r) (by simp) _ HB.out HV.out).mono ?_
      rintro e w1 ⟨v', v'', rfl, h1, h2, h3, h4⟩
      have H1 := Lib.hid h2
      have H2 := Lib.hid h3
      rcases h1 with ⟨h, _⟩ | ⟨ad, cap, rfl, hc, hg, hh⟩
      · cases h
      · have cc := hh 0 (by simp)
        have hc2 : 1 ≤ cap := by simpa using hc
        simp only [List.take_succ_cons, List.take_zero, List.getElem_cons_zero, Addr.add_zero'] at cc
        have e1 : (List.take 1 (c :: r)).length = 1 := by simp
        rw [e1]
        clear hh h2 h3 hc
        go_wp2_with fail
        go_ret
        exact ⟨rfl, ⟨v'', H1.out, H2.out⟩, h4⟩
end Go.Proofs.YtghnbkkfghfifaaGreatDoor.E
