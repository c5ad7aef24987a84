/- The walk of EventDecodes. -/
import Derived.Test.YthfhfekneahonaaDoorYd
import Derived.Test.YthfhfekneahonaaDoorX4
namespace Go.Proofs.YthfhfekneahonaaDoor
open Go.RowKit
set_option linter.unusedVariables false
theorem rdec_any (bv : Value) (l : List UInt8) (hl : l.length ≤ 1000) (w : World) (hv : Seen w w.heap.size bv l) :
    Calls Tryd.prog 35 #[bv] w fun e w' => e = .returned (decV l) ∧ Below w.heap.size w w' := by
  cases l with
  | nil => exact rdec_nil bv w hv
  | cons c r =>
    obtain ⟨q, cap, rfl⟩ := hv.shape
    obtain ⟨k, s, n, a, p, i, v, t, x1, x2, x3, x4, x5, x6, x7, x8, hc⟩ := chain (c :: r)
    exact rdec_walk q cap (c :: r) hl (by simp) k s n a p i v t x1 x2 x3 x4 x5 x6 x7 x8 hc w hv
theorem bind_badinv {α β : Type} {x : Rd α} {f : α → List UInt8 → Rd β} {c : Int} (h : x.bind f = .bad c) : x = .bad c ∨ ∃ a r, x = .ok a r ∧ f a r = .bad c := by
  cases x with
  | bad c' =>
    have h' : (Rd.bad c' : Rd β) = .bad c := h
    injection h' with h'
    exact .inl (by rw [h'])
  | ok a r => exact .inr ⟨a, r, rfl, h⟩
theorem rdOne_bad {l : List UInt8} {c : Int} (h : rdOne l = .bad c) : c = 3 := by
  cases l with
  | nil => injection h with h; exact h.symm
  | cons x r => cases h
theorem decL_bad {l : List UInt8} {c : Int} (h : decL l = .bad c) : c = 2 ∨ c = 3 := by
  rcases bind_badinv h with h | ⟨e, r, _, h⟩
  · unfold rdEv at h
    rcases bind_badinv h with h | ⟨_, _, _, h⟩
    · exact .inr (rdOne_bad h)
    rcases bind_badinv h with h | ⟨_, _, _, h⟩
    · exact .inr (rdTxt_bad h)
    rcases bind_badinv h with h | ⟨_, _, _, h⟩
    · exact rdNum_bad h
    rcases bind_badinv h with h | ⟨_, _, _, h⟩
    · exact rdNum_bad h
    rcases bind_badinv h with h | ⟨_, _, _, h⟩
    · exact .inr (rdTxt_bad h)
    rcases bind_badinv h with h | ⟨_, _, _, h⟩
    · exact .inr (rdTxt_bad h)
    rcases bind_badinv h with h | ⟨_, _, _, h⟩
    · exact rdNum_bad h
    rcases bind_badinv h with h | ⟨_, _, _, h⟩
    · exact .inr (rdTxt_bad h)
    cases h
  · by_cases hm : mayB e = true
    · rw [if_pos hm] at h; cases h
    · rw [if_neg hm] at h; injection h with h; exact .inl h.symm
/-- Bytes that came in. -/
structure SD (W : World) (bv : Value) (l : List UInt8) (w : World) : Prop where
  sn : Seen w W.heap.size bv l
  lay : Lay w
  bw : Below W.heap.size W w
theorem SD.below {W w w' : World} {bv : Value} {l : List UInt8} (h : SD W bv l w) (hb : Below w.heap.size w w') : SD W bv l w' := ⟨h.sn.below hb h.bw.size, h.lay.next hb, h.bw.trans (hb.mono h.bw.size)⟩
theorem SD.alloc {W w : World} {bv : Value} {l : List UInt8} (h : SD W bv l w) (o : Obj) : SD W bv l (w.alloc o) := h.below ((Below.refl _ _).alloc (Nat.le_refl _) o)
theorem SD.seen {W w : World} {bv : Value} {l : List UInt8} (h : SD W bv l w) : Seen w w.heap.size bv l := h.sn.mono h.bw.size
set_option maxRecDepth 100000 in
theorem ldec_big (q : Option Addr) (cap : Nat) (l : List UInt8) (h : 1000 < l.length) (w : World) (hL : Lay w) :
    Calls Tryd.prog 7 #[.slice q l.length cap] w fun e w' => e = .returned (.bool true) ∧ Below w.heap.size w w' := by
  have HL := Lib.hid hL
  have h1 : decide ((1000 : Int) < (l.length : Int)) = true := by simp; omega
  have h2 : decide (1000 < l.length) = true := by simp; omega
  clear hL h
  go_enter Tryd.func7, Tryd.ntmps7
  go_wp2_with fail
  refine (lives_any _ HL.out).mono ?_
  rintro e w1 ⟨rfl, hb⟩
  go_wp2_with fail
  go_ret
  exact ⟨rfl, hb⟩
set_option maxRecDepth 100000 in
theorem ldec_bad (q : Option Addr) (cap : Nat) (l : List UInt8) (h : ¬ 1000 < l.length) (c : Int) (hd : decL l = .bad c) (w : World) (hL : Lay w) (hv : Seen w w.heap.size (.slice q l.length cap) l) :
    Calls Tryd.prog 7 #[.slice q l.length cap] w fun e w' => e = .returned (.bool true) ∧ Below w.heap.size w w' := by
  have D' := fun w hL hv => dec_bad (.slice q l.length cap) l c hd w hL hv
  have R' := fun w hv => rdec_any (.slice q l.length cap) l (by omega) w hv
  rw [decV_bad hd] at R'
  have hc4 : (c == 0) = false := by rcases decL_bad hd with rfl | rfl <;> rfl
  have hc5 : (c = 0) = False := by rcases decL_bad hd with rfl | rfl <;> simp
  have D := Lib.hid D'
  have R := Lib.hid R'
  clear D' R' hd
  have HL := Lib.hid hL
  have HV := Lib.hid hv
  have h1 : decide ((1000 : Int) < (l.length : Int)) = false := by simp; omega
  have h2 : decide (1000 < l.length) = false := by simp; omega
  clear hL hv
  go_enter Tryd.func7, Tryd.ntmps7
  go_wp2_with fail
  refine (lives_any _ HL.out).mono ?_
  rintro e w1 ⟨rfl, hb⟩
  have M1 : SD w (.slice q l.length cap) l w1 := SD.below ⟨HV.out, HL.out, Below.refl _ _⟩ hb
  clear hb
  go_wp2_with fail
  refine (D.out _ M1.lay M1.seen).mono ?_
  rintro e w2 ⟨rfl, hb⟩
  have M2 := M1.below hb
  have E2 := EvAt.new w2 zeroE
  clear hb
  go_wp2_with fail
  refine (R.out _ (M2.alloc _).seen).mono ?_
  rintro e w3 ⟨rfl, hb⟩
  have M3 := (M2.alloc _).below hb
  have E3 : EvAt w3 w2.heap.size zeroE := E2.below hb (by simp)
  clear hb E2
  obtain ⟨c0, c1, c2, c3, c4, c5, c6, c7⟩ := E3.all
  simp only [zeroE] at c0 c1 c2 c3 c4 c5 c6 c7
  have hlt := E3.lt
  go_wp2_with fail
  go_ret
  exact ⟨rfl, M3.bw.alloc M3.bw.size _⟩
set_option maxRecDepth 100000 in
set_option maxHeartbeats 1000000 in
theorem ldec_ok (ad : Addr) (cap : Nat) (l : List UInt8) (h : ¬ 1000 < l.length) (hcap : l.length ≤ cap) (s : ByteArray) (n a k : Int) (p i : ByteArray) (v : Int) (t : ByteArray) (r : List UInt8) (hd : decL l = .ok ⟨s, n, a, k, p, i, v, t⟩ r) (w : World) (hL : Lay w) (hv : Seen w w.heap.size (.slice (some ad) l.length cap) l) :
    Calls Tryd.prog 7 #[.slice (some ad) l.length cap] w fun e w' => e = .returned (.bool true) ∧ Below w.heap.size w w' := by
  obtain ⟨hi, hm⟩ := decL_inv hd
  have hlen := congrArg List.length hi
  rw [List.length_append] at hlen
  have D' := fun w hL hv => dec_good (.slice (some ad) l.length cap) l ⟨s, n, a, k, p, i, v, t⟩ r hd (by omega) w hL hv
  have R' := fun w hv => rdec_any (.slice (some ad) l.length cap) l (by omega) w hv
  rw [decV_ok hd] at R'
  have E1' := fun w hL => enc_at hm w hL
  have l1p := encL_pos ⟨s, n, a, k, p, i, v, t⟩
  rw [show (l.length : Int) - (r.length : Int) = ((l.length - r.length : Nat) : Int) by omega] at D'
  have ht : encL ⟨s, n, a, k, p, i, v, t⟩ = l.take (l.length - r.length) := by
    rw [show l.length - r.length = (encL ⟨s, n, a, k, p, i, v, t⟩).length by omega, ← hi, List.take_left]
  obtain ⟨m, hm0⟩ : ∃ m, l.length - r.length = m := ⟨_, rfl⟩
  have hml : m ≤ l.length := by omega
  rw [hm0] at D' R' ht
  rw [ht] at E1' l1p
  have hmc : m ≤ cap := by omega
  have D := Lib.hid D'
  have R := Lib.hid R'
  have E1 := Lib.hid E1'
  clear D' R' E1' hd hi ht hm0 hlen hm
  have HL := Lib.hid hL
  have HV := Lib.hid hv
  have h1 : decide ((1000 : Int) < (l.length : Int)) = false := by simp; omega
  have h2 : decide (1000 < l.length) = false := by simp; omega
  clear hL hv
  go_enter Tryd.func7, Tryd.ntmps7
  go_wp2_with fail
  refine (lives_any _ HL.out).mono ?_
  rintro e w1 ⟨rfl, hb⟩
  have M1 : SD w (.slice (some ad) l.length cap) l w1 := SD.below ⟨HV.out, HL.out, Below.refl _ _⟩ hb
  clear hb
  go_wp2_with fail
  refine (D.out _ M1.lay M1.seen).mono ?_
  rintro e w2 ⟨rfl, hb⟩
  have M2 := M1.below hb
  have E2 := EvAt.new w2 ⟨s, n, a, k, p, i, v, t⟩
  clear hb
  go_wp2_with fail
  refine (R.out _ (M2.alloc _).seen).mono ?_
  rintro e w3 ⟨rfl, hb⟩
  have M3 := (M2.alloc _).below hb
  have E3 : EvAt w3 w2.heap.size ⟨s, n, a, k, p, i, v, t⟩ := E2.below hb (by simp)
  clear hb E2
  obtain ⟨c0, c1, c2, c3, c4, c5, c6, c7⟩ := E3.all
  simp only at c0 c1 c2 c3 c4 c5 c6 c7
  have hlt := E3.lt
  go_wp2_with fail
  refine (E1.out _ (M3.alloc _).lay).mono ?_
  rintro e w4 ⟨u, rfl, ho, hb⟩
  have M4 := (M3.alloc _).below hb
  clear hb c0 c1 c2 c3 c4 c5 c6 c7 hlt
  obtain ⟨g2, cp2, rfl, _, _⟩ := own_size ho l1p
  go_upto_region 12 with fail
  have hlm : (l.take m).length = m := by rw [List.length_take]; omega
  have cA : ∀ d os, (convert 44 9 (.slice (some ⟨g2, 0, none⟩) m cp2)).run Tryd.prog (Sort.grow (redrawn w4 d) os) = .ok (.string (bs (l.take m))) (Sort.grow (redrawn w4 d) os) := fun d os => by
    have := conv_own (ho.below (below_regrown w4 d os) (Nat.le_refl _)) l1p
    rw [hlm] at this
    exact this
  clear hlm
  have cB : ∀ d os, (convert 44 9 (.slice (some ad) m cap)).run Tryd.prog (Sort.grow (redrawn w4 d) os) = .ok (.string (bs (l.take m))) (Sort.grow (redrawn w4 d) os) := fun d os => ((M4.seen.takes m cap hml hmc).below (below_regrown w4 d os) (Nat.le_refl _)).text
  clear ho
  refine wp_region_quiet_below (by kernel_rfl) (by kernel_rfl) ?_
  repeat (go_big_quiet_step (fail))
  refine wpQuiet_nil ?_
  intro _ hw'
  obtain ⟨⟨dq, osq⟩, hw''⟩ := hw'
  subst hw''
  have bq := below_regrown w4 dq osq
  go_wp2_with fail
  go_ret
  exact ⟨rfl, M4.bw.trans (bq.mono M4.bw.size)⟩
theorem law_decodes (bv : Value) (l : List UInt8) (w : World) (hL : Lay w) (hv : Seen w w.heap.size bv l) :
    Calls Tryd.prog 7 #[bv] w fun e w' => e = .returned (.bool true) ∧ Below w.heap.size w w' := by
  have hv2 := hv
  obtain ⟨q, cap, rfl⟩ := hv.shape
  by_cases h : 1000 < l.length
  · exact ldec_big q cap l h w hL
  · cases hd : decL l with
    | bad c => exact ldec_bad q cap l h c hd w hL hv
    | ok e r =>
      obtain ⟨s, n, a, k, p, i, v, t⟩ := e
      rcases hv2 with ⟨h0, _⟩ | ⟨ad, cap', hv', hcc, _⟩
      · rw [h0] at hd; cases hd
      · injection hv' with h1 h2 h3
        subst h1 h3
        exact ldec_ok ad cap l h hcc s n a k p i v t r hd w hL hv
end Go.Proofs.YthfhfekneahonaaDoor
