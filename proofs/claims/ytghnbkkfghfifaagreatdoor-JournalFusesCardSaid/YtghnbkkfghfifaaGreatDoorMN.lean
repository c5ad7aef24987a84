/- Several texts in one: Na, Nb0, Nz. -/
import Derived.Test.YtghnbkkfghfifaaGreatDoorKa
import Derived.Test.YtghnbkkfghfifaaGreatDoorML
import Derived.Test.YtghnbkkfghfifaaGreatDoorKb
import Derived.Laws.AppendOwnNone
import Derived.Test.YtghnbkkfghfifaaGreatDoorERb
import Derived.Deep.Slices
/- Deeds that came in; are there more than are gone through? -/
namespace Go.Proofs.YtghnbkkfghfifaaGreatDoor
open Go.RowKit Go.Maps D
set_option linter.unusedVariables false
/-- A deed. -/
structure Dd where
  kind : Nat
  L : List Ev
  p : ByteArray
  fr : Int
  n : Int
/-- The cells of a deed. -/
def DdIn (w : World) (B : Nat) (ad : Addr) (j : Nat) (o : Dd) : Prop :=
  (o.kind < 256 ∧ o.L.length ≤ 2000000000000 ∧ (-9223372036854775808 ≤ o.fr ∧ o.fr ≤ 9223372036854775807) ∧ -9223372036854775808 ≤ o.n ∧ o.n ≤ 9223372036854775807) ∧ ∃ lv, w.cell? (ad.add (j * 5)) = some (.int .u8 (o.kind : Int)) ∧ w.cell? ⟨(ad.add (j * 5)).block, (ad.add (j * 5)).off + 1, none⟩ = some lv ∧
    w.cell? ⟨(ad.add (j * 5)).block, (ad.add (j * 5)).off + 2, none⟩ = some (.string o.p) ∧ w.cell? ⟨(ad.add (j * 5)).block, (ad.add (j * 5)).off + 3, none⟩ = some (.int .i64 o.fr) ∧
    w.cell? ⟨(ad.add (j * 5)).block, (ad.add (j * 5)).off + 4, none⟩ = some (.int .i64 o.n) ∧ E.Evs w B lv o.L
/-- A slice of deeds; they lie below B. -/
def Dds (w : World) (B : Nat) (v : Value) (l : List Dd) : Prop := ∃ (q : Option Addr) (cap : Nat), v = .slice q l.length cap ∧ l.length ≤ 4000000000000 ∧ ∀ (j : Nat) (hj : j < l.length), ∃ ad, q = some ad ∧ ad.block < B ∧ DdIn w B ad j l[j]
theorem DdIn.below {w w' : World} {B : Nat} {ad : Addr} {j : Nat} {o : Dd} (h : DdIn w B ad j o) (hb : Below B w w') (hl : ad.block < B) : DdIn w' B ad j o := by
  obtain ⟨h0, lv, h1, h2, h3, h4, h5, h6⟩ := h
  have c : w'.cell? (ad.add (j * 5)) = w.cell? (ad.add (j * 5)) := World.cell?_of_block (w := w) (a := ad.add (j * 5)) (hb.block _ (by rw [add_block]; exact hl))
  have c' : ∀ m, w'.cell? ⟨(ad.add (j * 5)).block, m, none⟩ = w.cell? ⟨(ad.add (j * 5)).block, m, none⟩ := fun m => World.cell?_of_block (w := w) (a := ⟨(ad.add (j * 5)).block, m, none⟩) (hb.block _ (by rw [add_block]; exact hl))
  exact ⟨h0, lv, by rw [c]; exact h1, by rw [c']; exact h2, by rw [c']; exact h3, by rw [c']; exact h4, by rw [c']; exact h5, h6.below hb (Nat.le_refl _)⟩
theorem Dds.below {w w' : World} {B : Nat} {v : Value} {l : List Dd} (h : Dds w B v l) (hb : Below B w w') : Dds w' B v l := by
  obtain ⟨q, cap, hv, hc, hh⟩ := h
  refine ⟨q, cap, hv, hc, fun j hj => ?_⟩
  obtain ⟨ad, h1, h2, h3⟩ := hh j hj
  exact ⟨ad, h1, h2, h3.below hb h2⟩
theorem Dds.shape {w : World} {B : Nat} {v : Value} {l : List Dd} (h : Dds w B v l) : ∃ q cap, v = .slice q l.length cap ∧ l.length ≤ 4000000000000 := by
  obtain ⟨q, cap, hv, hc, _⟩ := h
  exact ⟨q, cap, hv, hc⟩
theorem Dds.at {w : World} {B : Nat} {q : Option Addr} {cap : Nat} {l : List Dd} (h : Dds w B (.slice q l.length cap) l) (j : Nat) (hj : j < l.length) : ∃ ad, q = some ad ∧ ad.block < B ∧ DdIn w B ad j l[j] := by
  obtain ⟨q', cap', hv, _, hh⟩ := h
  cases hv
  exact hh j hj
set_option maxRecDepth 100000 in
set_option maxHeartbeats 1000000 in
/-- Some, of any length. -/
theorem rsome_big (bv : Value) (es : List Ev) (most : Nat) (hle : es.length ≤ 2000000000000) (w : World) (hv : E.Evs w w.heap.size bv es) :
    Calls Tryz.prog 38 #[bv, .int .i64 most] w fun e w' => e = .returned (.bool (!es.all (fun e => decide (E.Small e most)))) ∧ Below w.heap.size w w' := by
  obtain ⟨q, cap, rfl⟩ := hv.shape
  have HV := Lib.hid hv
  clear hv
  go_enter Tryz.func38, Tryz.ntmps38
  go_wp2_with fail
  go_loopw [5] (fun i wr => ∃ k : Nat, k ≤ es.length ∧ i = .int .i64 k ∧ Hid ((es.take k).all (fun e => decide (E.Small e most)) = true) ∧ Hid (E.Evs wr w.heap.size (.slice q es.length cap) es) ∧ Below w.heap.size w wr) (fun i _ => es.length - (intOf i).toNat)
  case atStart => exact ⟨0, by omega, rfl, rfl, HV.out, Below.refl _ _⟩
  case round =>
    obtain ⟨k, hk, rfl, HP, HE, hb⟩ := hrel
    by_cases hlt : k < es.length
    · obtain ⟨ad, rfl, hab, hc⟩ := HE.out.at k hlt
      obtain ⟨c0, c1, c2, c3, c4, c5, c6, c7⟩ := hc
      obtain ⟨ev, hev⟩ : ∃ ev, es[k] = ev := ⟨_, rfl⟩
      rw [hev] at c0 c1 c2 c3 c4 c5 c6 c7
      obtain ⟨s, n, a, kd, p, i, v, t⟩ := ev
      simp only at c0 c1 c2 c3 c4 c5 c6 c7
      have HEV := Lib.hid hev
      clear hev
      have HBW := Lib.hid hb
      have hs := hb.size
      clear hb
      by_cases hp : (fun e => decide (E.Small e most)) (⟨s, n, a, kd, p, i, v, t⟩ : Ev) = true
      · have HPP := Lib.hid hp
        clear hp
        go_wp2_with fail
        refine (E.big_no s n a kd p i v t most (by simpa using HPP.out) _).mono ?_
        rintro e w1 ⟨rfl, hb⟩
        go_wp2_with fail
        refine ⟨⟨k + 1, by omega, by go_num, ?_, HE.out.below hb hs, HBW.out.trans (hb.mono hs)⟩, by simp only [intOf]; omega⟩
        exact E.take_all hlt HP.out (by rw [HEV.out]; exact HPP.out)
      · have HPP := Lib.hid hp
        clear hp
        have hfal := E.all_false (p := fun e => decide (E.Small e most)) hlt (by rw [HEV.out]; exact Bool.eq_false_iff.2 HPP.out)
        have HF := Lib.hid hfal
        clear hfal
        go_wp2_with fail
        refine (E.big_yes s n a kd p i v t most (by simpa using HPP.out) _).mono ?_
        rintro e w1 ⟨rfl, hb⟩
        go_wp2_with fail
        go_ret
        exact ⟨by rw [HF.out]; rfl, HBW.out.trans (hb.mono hs)⟩
    · have hall : es.all (fun e => decide (E.Small e most)) = true := by
        have := HP.out
        rw [List.take_of_length_le (by omega)] at this
        exact this
      have HF := Lib.hid hall
      clear hall
      go_wp2_with fail
      go_ret
      exact ⟨by rw [HF.out]; rfl, hb⟩
theorem evs_mono' {w : World} {B B' : Nat} {v : Value} {es : List Ev} (h : E.Evs w B v es) (hB : B ≤ B') : E.Evs w B' v es := by
  rcases h with h | ⟨ad, cap, hv, hc, hg, hh⟩
  · exact .inl h
  · exact .inr ⟨ad, cap, hv, hc, fun h0 => Nat.lt_of_lt_of_le (hg h0) hB, hh⟩
/-- How many events there are. -/
def totD (l : List Dd) : Nat := (l.map fun o => o.L.length).sum
theorem tot_le {l : List Dd} {K : Nat} (h : ∀ o ∈ l, o.L.length ≤ K) : totD l ≤ l.length * K := by
  unfold totD
  induction l with
  | nil => simp
  | cons x r ih =>
    have h1 := h x (by simp)
    have h2 := ih (fun o ho => h o (by simp [ho]))
    rw [List.map_cons, List.sum_cons, List.length_cons, Nat.succ_mul]
    omega
theorem tot_take (l : List Dd) (k : Nat) : totD (l.take k) ≤ totD l := by
  unfold totD
  conv => rhs; rw [← List.take_append_drop k l]
  rw [List.map_append, List.sum_append]
  omega
/-- What is gone through. -/
structure Light (l : List Dd) : Prop where
  few : l.length ≤ 20
  tot : totD l ≤ 60
  small : ∀ o ∈ l, ∀ e ∈ o.L, E.Small e 300
set_option maxRecDepth 100000 in
set_option maxHeartbeats 1000000 in
theorem heavy_any (v : Value) (l : List Dd) (w : World) (B : Nat) (hB : B ≤ w.heap.size) (hv : Dds w B v l) :
    Calls Tryz.prog 12 #[v] w fun e w' => (∃ H, e = .returned (.bool H) ∧ (H = false → Light l)) ∧ Below w.heap.size w w' := by
  obtain ⟨q, cap, rfl, hle⟩ := hv.shape
  obtain ⟨N, hN⟩ : ∃ N, l.length = N := ⟨_, rfl⟩
  have HV := Lib.hid hv
  rw [hN] at HV hle ⊢
  have HN := Lib.hid hN
  clear hv hN
  go_enter Tryz.func12, Tryz.ntmps12
  go_wp2_with fail
  go_loopw [3, 4] (fun m i wr => ∃ (k : Nat) (x : Int), k ≤ N ∧ i = .int .i64 k ∧ m = .int .i64 x ∧ Hid (N ≤ 20 → x = (totD (l.take k) : Nat)) ∧ Hid (∀ o ∈ l.take k, ∀ e ∈ o.L, E.Small e 300) ∧ Hid (Below w.heap.size w wr)) (fun _ i _ => N - (intOf i).toNat)
  case atStart => exact ⟨0, 0, by omega, rfl, rfl, Lib.hid (fun _ => rfl), Lib.hid (fun o ho => by simp at ho), Lib.hid (Below.refl _ _)⟩
  case round =>
    obtain ⟨k, x, hk, rfl, rfl, HX, HS, HB⟩ := hrel
    by_cases hlt : k < N
    · have hkl : k < l.length := by rw [HN.out]; exact hlt
      obtain ⟨ad, hq, hab, hd⟩ := Dds.at (show Dds wr B (.slice q l.length cap) l by rw [HN.out]; exact HV.out.below (HB.out.mono hB)) k hkl
      obtain ⟨⟨b0, b1, b2, b3⟩, lv, c0, c1, c2, c3, c4, he⟩ := hd
      obtain ⟨q1, p1, rfl⟩ := he.shape
      have HSUM : Hid (N ≤ 20 → totD (l.take k) ≤ k * 2000000000000) := Lib.hid (fun h20 => by
        have hall : ∀ o ∈ l.take k, o.L.length ≤ 2000000000000 := fun o ho => by
          obtain ⟨i, hi, rfl⟩ := List.mem_iff_getElem.1 (List.mem_of_mem_take ho)
          obtain ⟨_, _, _, hd'⟩ := Dds.at (show Dds wr B (.slice q l.length cap) l by rw [HN.out]; exact HV.out.below (HB.out.mono hB)) i hi
          exact hd'.1.2.1
        have := tot_le hall
        rw [List.length_take, HN.out] at this
        exact Nat.le_trans this (Nat.mul_le_mul_right _ (by omega)))
      have htk : l.take (k + 1) = l.take k ++ [l[k]] := List.take_succ_eq_append_getElem hkl
      obtain ⟨o, ho⟩ : ∃ o, l[k] = o := ⟨_, rfl⟩
      rw [ho] at c0 c1 c2 c3 c4 he b0 b1 b2 b3 htk
      have HT := Lib.hid htk
      have HSM := Lib.hid (rsome_big (.slice q1 o.L.length p1) o.L 300 b1 wr (evs_mono' he (Nat.le_trans hB HB.out.size)))
      obtain ⟨Z, hZ⟩ : ∃ Z, o.L.all (fun e => decide (E.Small e 300)) = Z := ⟨_, rfl⟩
      rw [hZ] at HSM
      have HZ := Lib.hid hZ
      obtain ⟨M, hM⟩ : ∃ M, o.L.length = M := ⟨_, rfl⟩
      rw [hM] at c1 HSM b1
      have HB1 := Lib.hid b1
      have HM := Lib.hid hM
      subst hq
      clear he htk ho hZ hM b0 b1 b2 b3 hkl
      cases Z
      · go_wp2_with fail
        refine (HSM.out).mono ?_
        rintro e w1 ⟨rfl, hb1⟩
        have HB2 := Lib.hid (HB.out.trans (hb1.mono HB.out.size))
        clear hb1
        go_wp2_with fail
        go_ret
        exact ⟨⟨_, rfl, fun h => by cases h⟩, HB2.out⟩
      · go_wp2_with fail
        refine (HSM.out).mono ?_
        rintro e w1 ⟨rfl, hb1⟩
        have HB2 := Lib.hid (HB.out.trans (hb1.mono HB.out.size))
        clear hb1
        go_wp2_with fail
        refine ⟨⟨k + 1, _, by omega, by go_num, rfl, Lib.hid (fun h20 => ?_), Lib.hid (fun o' ho' e he => ?_), HB2⟩, by simp only [intOf]; omega⟩
        · have h1 := HX.out h20
          have h2 := HSUM.out h20
          rw [HT.out]
          unfold totD at h2 ⊢
          rw [List.map_append, List.sum_append, h1]
          unfold totD
          have h3 := HM.out
          have h4 := HB1.out
          simp only [List.map_cons, List.map_nil, List.sum_cons, List.sum_nil]
          rw [h3]
          unfold wrap64
          omega
        · rw [HT.out] at ho'
          rcases List.mem_append.1 ho' with h | h
          · exact HS.out o' h e he
          · rw [List.mem_singleton.1 h] at he
            exact of_decide_eq_true (List.all_eq_true.1 HZ.out e he)
    · obtain rfl : k = N := by omega
      have htk : l.take k = l := List.take_of_length_le (by rw [HN.out]; exact Nat.le_refl _)
      rw [htk] at HX HS
      have HF : Hid ((decide ((20 : Int) < (k : Int)) || decide ((60 : Int) < x)) = false → Light l) := Lib.hid (fun h => by
        simp only [Bool.or_eq_false_iff, decide_eq_false_iff_not] at h
        have h20 : k ≤ 20 := by omega
        have h1 := HX.out h20
        exact ⟨by rw [HN.out]; exact h20, by omega, HS.out⟩)
      clear htk
      by_cases h20 : (20 : Int) < (k : Int)
      · go_wp2_with fail
        go_ret
        exact ⟨⟨_, rfl, fun h => by cases h⟩, HB.out⟩
      · by_cases h60 : (60 : Int) < x
        · go_wp2_with fail
          go_ret
          exact ⟨.inr rfl, HB.out⟩
        · go_wp2_with fail
          go_ret
          exact ⟨.inl ⟨rfl, HF.out (by simp [h20, h60])⟩, HB.out⟩
end Go.Proofs.YtghnbkkfghfifaaGreatDoor
/- A journal on a disk that goes down: what is sent, and what lies there. -/
namespace Go.Proofs.YtghnbkkfghfifaaGreatDoor
open Go.RowKit Go.Maps D
set_option linter.unusedVariables false
/-- A journal behind appends and syncs. -/
structure Fs (per : Nat) (j : Jn Ev) (sent : List Ev) (stuck : Bool) : Prop where
  ok : (stuck = false ∧ (∃ st, Lit pay jN per j st) ∧ j.es = sent) ∨ (stuck = true ∧ ∃ files es' st, Dim pay jN per j files es' st ∧ es' <+: sent)
  may : sent.all E.mayB = true
  few : sent.length ≤ 2000
section
variable {per : Nat} {j : Jn Ev} {sent : List Ev} {stuck : Bool}
theorem Fs.sync (h : Fs per j sent stuck) : (jsync jN j).2 = 0 ∧ stuck = false ∧ Fs per (jsync jN j).1 sent false ∨ (jsync jN j).2 = 8 ∧ Fs per (jsync jN j).1 sent true := by
  rcases h.ok with ⟨h1, ⟨st, h2⟩, h3⟩ | ⟨h1, files, es', st, h2, h3⟩
  · rcases h2.sync with ⟨j', e, h4, h5, h6, h7⟩ | ⟨j', e, h4, h5, h6⟩
    · left
      rw [e]
      exact ⟨rfl, h1, .inl ⟨rfl, ⟨_, h4⟩, by rw [h5, h3]⟩, h.may, h.few⟩
    · right
      rw [e]
      exact ⟨rfl, .inr ⟨rfl, _, _, _, h4, by rw [h3]; exact List.prefix_refl _⟩, h.may, h.few⟩
  · right
    have e : jsync jN j = (j, 8) := by
      unfold jsync
      rw [if_pos (.inl (by rw [h2.stuck]; decide)), h2.stuck]
    rw [e]
    exact ⟨rfl, .inr ⟨rfl, _, _, _, h2, h3⟩, h.may, h.few⟩
theorem Fs.app (h : Fs per j sent stuck) (xs : List Ev) (hm : xs.all E.mayB = true) (hl : sent.length + xs.length ≤ 2000) :
    (jappend pay jN per E.mayB xs j).2.2 = 0 ∧ stuck = false ∧ Fs per (jappend pay jN per E.mayB xs j).1 (sent ++ xs) false ∨ (jappend pay jN per E.mayB xs j).2.2 = 8 ∧ Fs per (jappend pay jN per E.mayB xs j).1 (if stuck then sent else sent ++ xs) true := by
  have hmm : (sent ++ xs).all E.mayB = true := by rw [List.all_append, h.may, hm]; rfl
  have hll : (sent ++ xs).length ≤ 2000 := by rw [List.length_append]; exact hl
  rcases h.ok with ⟨h1, ⟨st, h2⟩, h3⟩ | ⟨h1, files, es', st, h2, h3⟩
  · have hj : jappend pay jN per E.mayB xs j = ((jadds pay jN per xs j).1, j.es.length, (jadds pay jN per xs j).2) := by
      unfold jappend
      have : jmay E.mayB xs j = 0 := by
        unfold jmay
        rw [h2.stuck, hm, if_neg (by simp), if_neg (by simp), if_neg (by rw [h3]; omega)]
      rw [this, if_neg (by simp)]
    rw [hj]
    rcases Lit.adds (pay := pay) xs h2 (short_of (all_may hm)) (by rw [h3]; exact hl) with ⟨j', st', e, h4, h5⟩ | ⟨j', f', es', st', e, h4, h5⟩
    · left
      rw [e]
      exact ⟨rfl, h1, .inl ⟨rfl, ⟨_, h4⟩, by rw [h5, h3]⟩, hmm, hll⟩
    · right
      rw [e, h1]
      exact ⟨rfl, .inr ⟨rfl, _, _, _, h4, by rw [h3] at h5; exact h5⟩, hmm, hll⟩
  · right
    have hj : jappend pay jN per E.mayB xs j = (j, 0, 8) := by
      unfold jappend
      have : jmay E.mayB xs j = 8 := by
        unfold jmay
        rw [h2.stuck, if_pos (by decide)]
      rw [this, if_pos (by decide)]
    rw [hj, h1, if_pos rfl]
    exact ⟨rfl, .inr ⟨rfl, _, _, _, h2, h3⟩, h.may, h.few⟩
/-- What lies there at last. -/
theorem Fs.lies (h : Fs per j sent stuck) : ∃ files es' st, Lie pay jN per j.dk files es' j.lasts st ∧ es' <+: sent ∧ j.es.length ≤ sent.length ∧ j.lasts ≤ j.es.length := by
  rcases h.ok with ⟨h1, ⟨st, h2⟩, h3⟩ | ⟨h1, files, es', st, h2, h3⟩
  · exact ⟨_, _, _, h2.lie, by rw [h3]; exact List.prefix_refl _, by rw [h3]; exact Nat.le_refl _, h2.lie.shp.lasts⟩
  · exact ⟨_, _, _, h2.lie, h3, Nat.le_trans h2.pre.length_le h3.length_le, h2.le⟩
end
theorem grown_none {w w' : World} (h : w.grownBy w' none) (r : Option Nat) : w.grownBy w' r := ⟨h.os, h.tape, h.output, h.size, fun k hk _ => h.block k hk (by simp)⟩
/-- 'append' of a slice of events to a row of one's own: in place, or in a block that is new. -/
theorem wpList_append_evs {ops : Array Oper} {rest : List Oper} {o : Oper} {a : Act} {Q : Exit → Act → World → Prop} {w : World} (hgd : o.guard = none) (s x : Operand)
    (ho : o.op = .call { callee := .builtin .append, args := #[s, x], argTypes := #[62, 62] }) (base : Nat) (v : Value) (l : List Ev) (hs : a.eval s = v) (hown : EvRow w base v l) (B : Nat) (xv : Value) (m : List Ev) (hx : a.eval x = xv) (hsn : E.Evs w B xv m)
    (hlen : l.length + m.length ≤ 1000000) (hbase : base ≤ w.heap.size)
    (h : ∀ v' w', EvRow w' base v' (l ++ m) → w.grownBy w' v.ownBlock → (∀ g, v'.ownBlock = some g → v.ownBlock = some g ∨ w.heap.size ≤ g) → wpList Tryz.prog ops Q rest (a.put o.dst v') w') : wpList Tryz.prog ops Q (o :: rest) a w := by
  obtain ⟨i0, hi, hz0, hz1, hz2⟩ := info52_parts
  have b1 : l.length + m.length ≤ maxLen := by unfold maxLen; omega
  have b2 : (l.length + m.length) * 96 ≤ 140737488355328 := by omega
  have hrow : ∀ {w' : World} {base' : Nat} {v' : Value}, w'.ownsRow base' 52 8 v' (l.length + m.length) (evsL l ++ evsL m) → EvRow w' base' v' (l ++ m) := fun h1 => by
    unfold EvRow
    rw [List.length_append, evsL_app]
    exact h1
  rcases hsn with ⟨rfl, rfl⟩ | ⟨ad, cap, rfl, hc, hg, hh⟩
  · refine wpList_append_own_none hgd s x 62 ho base 52 i0 8 Tryz.underlying62 hi v l.length (evsL l) hs hown hx ?_
    exact h v w (by rw [List.append_nil]; exact hown) ⟨rfl, rfl, rfl, Nat.le_refl _, fun _ _ _ => rfl⟩ (fun g hg => .inl hg)
  · have hcs := evs_cells (B := B) (.inr ⟨ad, cap, rfl, hc, hg, hh⟩)
    have hown' := hown
    rcases hown'.2 with ⟨hv, h0⟩ | ⟨g, vcap, cur, hv, hgb, hh', hcap, _⟩
    · have hl0 : l = [] := List.length_eq_zero_iff.1 h0
      by_cases hm : m.length = 0
      · refine wpList_append_own _ hgd s x 62 ho base 52 i0 _ 8 96 Tryz.underlying62 hi hz0 hz1 hz2 rfl (by decide) v l.length (evsL l) hs hown ad m.length cap (evsL m) hx (evsL_len m) hcs (evsL_one m) b1 b2 hbase (fun v' w' h1 h2 h3 => ?_)
        refine h v' w' (hrow h1) h2 (fun g hg' => ?_)
        rw [h3.2 ⟨hv, hm⟩] at hg'
        cases hg'
      · subst hv
        refine wpList_append_grows _ hgd s x 62 ho 52 i0 _ 8 96 Tryz.underlying62 hi hz0 hz1 hz2 rfl (by decide) none l.length 0 (evsL l) (by rw [hs, h0]) (fun _ => ⟨h0, rfl⟩) (evsL_len l) (fun b hb => by cases hb) ad m.length cap (evsL m) hx (evsL_len m) hcs (evsL_one m) (by omega) b1 b2 (fun v' w' h1 h2 => ?_)
        exact h v' w' (hrow (own_base h1 hbase)) (grown_none h2 _) (fun g hg' => .inr (own_block h1 g hg'))
    · subst hv
      by_cases hf : l.length + m.length ≤ vcap
      · refine wpList_append_fits _ hgd s x 62 ho base 52 i0 8 Tryz.underlying62 hi hz1 g l.length vcap (evsL l) hs hown ad m.length cap (evsL m) hx (evsL_len m) hcs (evsL_one m) hf (fun w' h1 h2 => ?_)
        exact h _ w' (hrow h1) h2 (fun g' hg' => .inl hg')
      · refine wpList_append_grows _ hgd s x 62 ho 52 i0 _ 8 96 Tryz.underlying62 hi hz0 hz1 hz2 rfl (by decide) (some ⟨g, 0, none⟩) l.length vcap (evsL l) hs (fun e => by cases e) (evsL_len l) (fun b hb j u hu => by cases hb; exact World.ownsRow.cells hown rfl j u hu) ad m.length cap (evsL m) hx (evsL_len m) hcs (evsL_one m) (by omega) b1 b2 (fun v' w' h1 h2 => ?_)
        exact h v' w' (hrow (own_base h1 hbase)) (grown_none h2 _) (fun g' hg' => .inr (own_block h1 g' hg'))
/-- A journal, and a row beside it. -/
structure Jb (w0 w : World) (per d l : Nat) (v : Value) (j : Jn Ev) (sv : Value) (sent : List Ev) : Prop where
  log : ∃ F : Nat → Prop, LogM w F d l jN per v j ∧ (∀ i, F i → w0.heap.size ≤ i) ∧ ∀ g, sv.ownBlock = some g → ¬ F g
  row : EvRow w w0.heap.size sv sent
  below : Below w0.heap.size w0 w
  seven : 7 ≤ w0.heap.size
section
variable {w0 w w' : World} {per d l : Nat} {v : Value} {j j' : Jn Ev} {sv : Value} {sent : List Ev}
theorem Jb.call {Q : Ending → Prop} {f : Nat} {args : Array Value} (h : Jb w0 w per d l v j sv sent)
    (k : ∀ F : Nat → Prop, (∀ i, w.heap.size ≤ i → F i) → (∀ i, F i → w0.heap.size ≤ i) → LogM w F d l jN per v j → Calls Tryz.prog f args w fun e w' => Q e ∧ (∃ v', LogM w' F d l jN per v' j') ∧ Kept F w w') :
    Calls Tryz.prog f args w fun e w' => Q e ∧ ∃ v', Jb w0 w' per d l v' j' sv sent := by
  obtain ⟨F, hm, hF, hg⟩ := h.log
  refine (k (grow w F) grow_new (grow_low h.below hF) hm.up).mono ?_
  rintro e w' ⟨hq, ⟨v', hm'⟩, hk⟩
  have hrow : ∀ g, sv.ownBlock = some g → ¬ grow w F g := fun g hg' => by
    have hlt : g < w.heap.size := by
      obtain ⟨cur, hh⟩ := ev_blk h.row hg'
      exact lt_of_block hh
    rintro (hx | hx)
    · exact hg g hg' hx.1
    · omega
  exact ⟨hq, v', ⟨_, hm', grow_low h.below hF, hrow⟩, h.row.keptF hk hrow, kept_low h.below hF hk, h.seven⟩
theorem Jb.next (h : Jb w0 w per d l v j sv sent) (hb : Below w.heap.size w w') : Jb w0 w' per d l v j sv sent := by
  obtain ⟨F, hm, hF, hg⟩ := h.log
  exact ⟨⟨lim w F, (hm.mono (G := lim w F) (fun i hi hs => ⟨hi, hs⟩) (fun i hi => hm.seven i hi.1)).below hb, fun i hi => hF i hi.1, fun g hg' hx => hg g hg' hx.1⟩, h.row.below hb (Nat.le_refl _), h.below.trans (hb.mono h.below.size), h.seven⟩
/-- The row has grown. -/
theorem Jb.put (h : Jb w0 w per d l v j sv sent) {sv' : Value} {sent' : List Ev} (hr : EvRow w' w0.heap.size sv' sent') (hg : w.grownBy w' sv.ownBlock) (hn : ∀ g, sv'.ownBlock = some g → sv.ownBlock = some g ∨ w.heap.size ≤ g) : Jb w0 w' per d l v j sv' sent' := by
  obtain ⟨F, hm, hF, hgf⟩ := h.log
  have hk : Kept (fun i => sv.ownBlock = some i) w w' := (Kept.refl _ w).grown hg (fun i hi => .inr hi)
  have hlo : ∀ g, sv.ownBlock = some g → w0.heap.size ≤ g := fun g hg' => own_block h.row g hg'
  refine ⟨⟨lim w F, (hm.mono (G := lim w F) (fun i hi hs => ⟨hi, hs⟩) (fun i hi => hm.seven i hi.1)).farF hk (fun i hi _ e => hgf i e hi.1) (fun i e => ?_), fun i hi => hF i hi.1, fun g hg' hx => ?_⟩, hr, h.below.grown hg h.below.size (fun k hk => hlo k hk), h.seven⟩
  · exact Nat.le_trans h.seven (hlo i e)
  · rcases hn g hg' with h1 | h1
    · exact hgf g h1 hx.1
    · have := hx.2; omega
end
end Go.Proofs.YtghnbkkfghfifaaGreatDoor
/- A slice of deeds that came in: off a row's conditions. -/
namespace Go.Proofs.YtghnbkkfghfifaaGreatDoor
open Go Go.ChangeShapes Go.WideShapes Go.ChangeAt Go.RowKit Go.Deep
set_option linter.unusedVariables false
theorem bo52 : Tryz.prog.bytesOf 52 = 96 := by kernel_rfl
theorem bo64 : Tryz.prog.bytesOf 64 = 64 := by kernel_rfl
theorem co64 : Tryz.prog.cellsOf 64 = 5 := by kernel_rfl
theorem weights_all {H : Type} {e : TypeId} : ∀ {l : List (DataW H)}, (DataW.weightsAll Tryz.prog e l).all (· ≤ reachBytes) = true → ∀ d ∈ l, (d.weights Tryz.prog e).all (· ≤ reachBytes) = true
  | [], _, d, hd => by cases hd
  | x :: r, h, d, hd => by
    unfold DataW.weightsAll at h
    rw [List.all_append, Bool.and_eq_true] at h
    rcases List.mem_cons.1 hd with rfl | hd
    · exact h.1
    · exact weights_all h.2 d hd
set_option maxRecDepth 100000 in
theorem evs_in {H : Type} {enc : TypeId × Value → H} {W : World} {base fuel : Nat} {held : Bool} {cs : List Value} {x : DataW H × List MemPlace} (hf : DataW.trod enc Tryz.prog W base (fun _ => true) held fuel 62 cs = some x)
    (hlt : ∀ y ∈ x.2, y.block < W.heap.size) (hw : (x.1.weights Tryz.prog 62).all (· ≤ reachBytes) = true) : ∃ v es, cs = [v] ∧ E.Evs W W.heap.size v es ∧ es.length ≤ 2000000000000 := by
  rcases open_slice Tryz.underlying62 hf with ⟨hcs, hx⟩ | ⟨a, len, cap, m, n, D, Pl, hcs, _, hl, hm, hmm, hx, hcell⟩
  · exact ⟨_, [], hcs, .inl ⟨rfl, rfl⟩, by simp⟩
  · subst hx
    simp only [if_true] at hmm
    subst hmm
    simp only at hlt hw
    unfold DataW.weights at hw
    rw [Tryz.underlying62] at hw
    simp only [List.all_cons, Bool.and_eq_true, decide_eq_true_eq] at hw
    have hlen := hw.1
    rw [bo52, List.length_map, List.length_range, List.length_map, List.length_range] at hlen
    unfold reachBytes at hlen
    rw [E.c24] at hcell hlt
    obtain ⟨f, hf⟩ := choose_lt (α := E.Ev) (p := fun i e => E.EvIn W a i e) (n := len) (fun i hi => by
      obtain ⟨cs', h1, h2⟩ := hcell i (by omega)
      obtain ⟨_, hlen, hget⟩ := World.cells?_some h1
      obtain ⟨e, rfl⟩ := E.ev_cells hlen h2
      refine ⟨e, ?_⟩
      have g0 := hget 0 (by omega)
      rw [Addr.add_zero'] at g0
      exact ⟨g0, hget 1 (by omega), hget 2 (by omega), hget 3 (by omega), hget 4 (by omega), hget 5 (by omega), hget 6 (by omega), hget 7 (by omega)⟩)
    refine ⟨_, (List.range len).map f, hcs, .inr ⟨a, m, by simp, by simp; omega, fun h0 => hlt (.cell a.block a.off) (List.mem_append_left _ (MemPlace.mem_row.2 ⟨0, by simp at h0; omega, by simp⟩)), fun j hj => ?_⟩, by simp; omega⟩
    simp only [List.length_map, List.length_range] at hj
    simp only [List.getElem_map, List.getElem_range]
    exact hf j hj
theorem bounds_u8 {n : Int} (h : (Lit.int .u8 n).wf = true) : ∃ k : Nat, n = (k : Int) ∧ k < 256 := by
  simp [Lit.wf] at h
  have h1 : IntKind.u8.min = 0 := by decide
  have h2 : IntKind.u8.max = 255 := by decide
  exact ⟨n.toNat, by omega, by omega⟩
instance : Inhabited Dd := ⟨⟨0, [], ⟨#[]⟩, 0, 0⟩⟩
set_option maxRecDepth 100000 in
theorem deed_cells {H : Type} {enc : TypeId × Value → H} {w : World} {base : Nat} {held : Bool} {fuel : Nat} {cs : List Value} {x : DataW H × List MemPlace} (hl : cs.length = 5) (hf : DataW.trod enc Tryz.prog w base (fun _ => true) held fuel 64 cs = some x)
    (hlt : ∀ y ∈ x.2, y.block < w.heap.size) (hw : (x.1.weights Tryz.prog 64).all (· ≤ reachBytes) = true) :
    ∃ (o : Dd) (lv : Value), cs = [.int .u8 (o.kind : Int), lv, .string o.p, .int .i64 o.fr, .int .i64 o.n] ∧ (o.kind < 256 ∧ o.L.length ≤ 2000000000000 ∧ (-9223372036854775808 ≤ o.fr ∧ o.fr ≤ 9223372036854775807) ∧ -9223372036854775808 ≤ o.n ∧ o.n ≤ 9223372036854775807) ∧ E.Evs w w.heap.size lv o.L := by
  obtain ⟨ys, m, _, hx, _, hn, hg⟩ := DataW.trod_struct Tryz.underlying64 hf
  match cs, hl with
  | [x0, x1, x2, x3, x4], _ =>
    match ys, hn with
    | [y0, y1, y2, y3, y4], _ =>
      have k0 := hg 0 _ rfl
      have k1 := hg 1 _ rfl
      have k2 := hg 2 _ rfl
      have k3 := hg 3 _ rfl
      have k4 := hg 4 _ rfl
      replace k0 : DataW.trod enc Tryz.prog w base (fun _ => true) held m 5 [x0] = some y0 := k0
      replace k1 : DataW.trod enc Tryz.prog w base (fun _ => true) held m 62 [x1] = some y1 := k1
      replace k2 : DataW.trod enc Tryz.prog w base (fun _ => true) held m 9 [x2] = some y2 := k2
      replace k3 : DataW.trod enc Tryz.prog w base (fun _ => true) held m 3 [x3] = some y3 := k3
      replace k4 : DataW.trod enc Tryz.prog w base (fun _ => true) held m 3 [x4] = some y4 := k4
      subst hx
      unfold DataW.weights at hw
      rw [Tryz.underlying64] at hw
      have hw1 : (y1.1.weights Tryz.prog 62).all (· ≤ reachBytes) = true := by
        simp only [List.map_cons, List.map_nil] at hw
        simp only [DataW.weightsEach, List.all_append, Bool.and_eq_true] at hw
        exact hw.2.1
      obtain ⟨s, q0, _, w0⟩ := DataW.trod_int Tryz.underlying5 k0
      obtain ⟨v, es, q1, hI, hle⟩ := evs_in k1 (fun y hy => hlt y (by simp [hy])) hw1
      obtain ⟨a, q2, _, _⟩ := DataW.trod_string Tryz.underlying9 k2
      obtain ⟨b, q3, _, w3⟩ := DataW.trod_int Tryz.underlying3 k3
      obtain ⟨c, q4, _, w4⟩ := DataW.trod_int Tryz.underlying3 k4
      simp only [List.cons.injEq, and_true] at q0 q1 q2 q3 q4
      obtain ⟨k, rfl, hk⟩ := bounds_u8 w0
      exact ⟨⟨k, es, a, b, c⟩, v, by rw [q0, q1, q2, q3, q4], ⟨hk, hle, bounds_i64 w3, bounds_i64 w4⟩, hI⟩
set_option maxRecDepth 100000 in
theorem open_deeds {H : Type} {enc : TypeId × Value → H} {W : World} {base : Nat} {v : Value} {d : DataW H} {p : List MemPlace} (hval : Value.okWide Tryz.prog W .any base 22 v) (h : DataW.Trod enc Tryz.prog W 0 (fun _ => true) true 22 v d p)
    (hlt : ∀ y ∈ p, y.block < W.heap.size) (hw : (d.weights Tryz.prog 22).all (· ≤ reachBytes) = true) : ∃ l, Dds W W.heap.size v l := by
  obtain ⟨a1, len, cap, rfl⟩ := okWide_slice Tryz.underlying22 hval
  obtain ⟨fuel, hf⟩ := h
  rcases open_slice Tryz.underlying22 hf with ⟨hcs, hx⟩ | ⟨a, len', cap', m, n, D, Pl, hcs, _, hl, hm, hmm, hx, hcell⟩
  · simp [Value.cells] at hcs
    obtain ⟨rfl, rfl, rfl⟩ := hcs
    exact ⟨[], none, 0, rfl, by simp, fun j hj => by cases hj⟩
  · simp [Value.cells] at hcs
    obtain ⟨rfl, rfl, rfl⟩ := hcs
    simp only [Prod.mk.injEq] at hx
    obtain ⟨rfl, rfl⟩ := hx
    simp only [if_true] at hmm
    subst hmm
    unfold DataW.weights at hw
    rw [Tryz.underlying22] at hw
    simp only [List.all_cons, List.all_append, Bool.and_eq_true, decide_eq_true_eq] at hw
    have hlen := hw.1
    rw [bo64, List.length_map, List.length_range, List.length_map, List.length_range] at hlen
    unfold reachBytes at hlen
    have hwe := weights_all hw.2.1
    rw [co64] at hcell hlt
    obtain ⟨f, hf⟩ := choose_lt (α := Dd) (p := fun i e => DdIn W W.heap.size a i e) (n := len) (fun i hi => by
      obtain ⟨cs', h1, h2⟩ := hcell i (by omega)
      obtain ⟨_, hlen, hget⟩ := World.cells?_some h1
      obtain ⟨o, lv, rfl, hb, hI⟩ := deed_cells hlen h2 (fun y hy => hlt y (List.mem_append_right _ (List.mem_flatMap.2 ⟨i, by simp; omega, hy⟩))) (hwe _ (List.mem_map.2 ⟨i, List.mem_range.2 hi, rfl⟩))
      refine ⟨o, hb, lv, ?_⟩
      have g0 := hget 0 (by omega)
      rw [Addr.add_zero'] at g0
      exact ⟨g0, hget 1 (by omega), hget 2 (by omega), hget 3 (by omega), hget 4 (by omega), hI⟩)
    refine ⟨(List.range len).map f, some a, m, by simp, by simp; omega, fun j hj => ?_⟩
    simp only [List.length_map, List.length_range] at hj
    refine ⟨a, rfl, hlt (.cell a.block a.off) (List.mem_append_left _ (MemPlace.mem_row.2 ⟨0, by omega, by simp⟩)), ?_⟩
    simp only [List.getElem_map, List.getElem_range]
    exact hf j hj
end Go.Proofs.YtghnbkkfghfifaaGreatDoor
