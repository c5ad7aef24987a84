/- A journal's rewrite of a segment. -/
import Derived.Test.YtghnbkkfghfifaaGreatDoorJk
namespace Go.Proofs.YtghnbkkfghfifaaGreatDoor
open Go.RowKit Go.Maps D
open F (frameL frameL_len)
set_option linter.unusedVariables false
theorem add_zero8 (g o : Nat) : (⟨g, 0, none⟩ : Addr).add o = ⟨g, o, none⟩ := by
  rw [Addr.add_mid, Nat.zero_add]
theorem left_get {f : Ev → Ev} {sg : List Ev} {m : Nat} (h : m < sg.length) : (sg.take (m + 1)).map f ++ sg.drop (m + 1) = ((sg.take m).map f ++ sg.drop m).take m ++ [f sg[m]] ++ ((sg.take m).map f ++ sg.drop m).drop (m + 1) := by
  obtain ⟨A, hA⟩ : ∃ A, (sg.take m).map f = A := ⟨_, rfl⟩
  have h1 : A.length = m := by rw [← hA, List.length_map, List.length_take]; omega
  have e1 : (A ++ sg.drop m).take m = A := List.take_left' h1
  have e2 : (A ++ sg.drop m).drop (m + 1) = sg.drop (m + 1) := by
    rw [List.drop_append, h1, List.drop_of_length_le (l := A) (by omega), show m + 1 - m = 1 by omega, List.drop_drop]
    simp
  rw [List.take_succ_eq_append_getElem h, List.map_append, hA, e1, e2]
  simp
theorem left_same {f : Ev → Ev} {sg : List Ev} {m : Nat} (h : m < sg.length) (hf : f sg[m] = sg[m]) : (sg.take (m + 1)).map f ++ sg.drop (m + 1) = (sg.take m).map f ++ sg.drop m := by
  rw [List.take_succ_eq_append_getElem h, List.map_append, List.drop_eq_getElem_cons h]
  simp [hf]
theorem cnt_step {kp : Ev → Bool} {sg : List Ev} {m : Nat} (h : m < sg.length) : cnt gone kp (sg.take (m + 1)) = cnt gone kp (sg.take m) + if drops gone kp sg[m] then 1 else 0 := by
  unfold cnt
  rw [List.take_succ_eq_append_getElem h, List.countP_append, List.countP_singleton]
theorem filt_step {sg : List Ev} {m : Nat} (h : m < sg.length) : (sg.take (m + 1)).filter (fun e => !gone e) = (sg.take m).filter (fun e => !gone e) ++ if gone sg[m] then [] else [sg[m]] := by
  rw [List.take_succ_eq_append_getElem h, List.filter_append]
  congr 1
  cases hg : gone sg[m] <;> simp [hg]
theorem left_len {f : Ev → Ev} {sg : List Ev} {m : Nat} (h : m ≤ sg.length) : ((sg.take m).map f ++ sg.drop m).length = sg.length := by
  rw [List.length_append, List.length_map, List.length_take, List.length_drop]; omega
theorem left_cells {w : World} {base lb n cap : Nat} {es : List Ev} (h : EvRow w base (.slice (some ⟨lb, 0, none⟩) n cap) es) (hn : n = es.length) {m : Nat} (hm : m < es.length) : (∃ e : Ev, w.cell? ⟨lb, m * 8, none⟩ = some (.string e.s) ∧ w.cell? ⟨lb, m * 8 + 1, none⟩ = some (.int .i64 e.n) ∧ w.cell? ⟨lb, m * 8 + 2, none⟩ = some (.int .i64 e.a) ∧ w.cell? ⟨lb, m * 8 + 3, none⟩ = some (.int .i64 e.k) ∧ w.cell? ⟨lb, m * 8 + 4, none⟩ = some (.string e.p) ∧ w.cell? ⟨lb, m * 8 + 5, none⟩ = some (.string e.i) ∧ w.cell? ⟨lb, m * 8 + 6, none⟩ = some (.int .i64 e.v) ∧ w.cell? ⟨lb, m * 8 + 7, none⟩ = some (.string e.t)) ∧ ∀ o, w.frozen? ⟨lb, o, none⟩ = false := by
  subst hn
  obtain ⟨ad, hq, _, c0, c1, c2, c3, c4, c5, c6, c7⟩ := h.evs.at m hm
  cases hq
  rw [add_zero8] at c0 c1 c2 c3 c4 c5 c6 c7
  obtain ⟨cur, hh⟩ := ev_blk h (g := lb) rfl
  exact ⟨⟨_, c0, c1, c2, c3, c4, c5, c6, c7⟩, fun o => by simp [World.frozen?, hh]⟩
theorem sub_wrap {x : Nat} (h : x ≤ 1048576) : wrap64 ((x : Int) - 1) = (x : Int) - 1 := by unfold wrap64; omega
theorem wrap_nat {x : Int} (h : 0 ≤ x ∧ x ≤ 1000000000) : wrap64 x = x := by unfold wrap64; omega
theorem below_setCells (B : Nat) (a : World) (g : Nat) (hg : B ≤ g) : ∀ (vs : List Value) (o : Nat) (w : World), Below B a w → Below B a (w.setCells g o vs)
  | [], _, _, h => h
  | u :: vs, o, w, h => below_setCells B a g hg vs (o + 1) _ (h.setCell (p := ⟨g, o, none⟩) hg u)
/-- A copy of events over all of a new row. -/
theorem copy_raw {w : World} {base g M cap : Nat} {xs : List Value} {bs : List Ev} (h : w.ownsRow base 52 8 (.slice (some ⟨g, 0, none⟩) M cap) M xs) (hM : bs.length = M) (sp : Option Addr) (sCap B : Nat) (hs : E.Evs w B (.slice sp M sCap) bs) :
    (Builtin.copy_ #[62, 62] 3 #[.slice (some ⟨g, 0, none⟩) M cap, .slice sp M sCap]).run Tryz.prog w = .ok (goInt M) (w.setCells g 0 (evsL bs)) ∧ EvRow (w.setCells g 0 (evsL bs)) base (.slice (some ⟨g, 0, none⟩) M cap) bs := by
  subst hM
  have hx := h.1
  constructor
  · obtain ⟨h1, h2⟩ := h
    rcases h2 with ⟨h2, _⟩ | ⟨g', cap', cur, hv, _, hh, _, _, hc, ht⟩
    · cases h2
    · cases hv
      have hlen : (evsL bs).length ≤ cur.size := by
        have := congrArg List.length ht
        rw [List.length_take] at this
        rw [evsL_len]
        simp only [Array.length_toList] at this
        omega
      have := run_copy_k (P := Tryz.prog) w 62 62 3 52 g 0 bs.length cap sp bs.length sCap 8 (evsL bs) Tryz.underlying62 size52 (by rw [evsL_len]; simp) (fun h0 => ?_) (fun j hj => ?_) (fun j hj => ?_) (evsL_one bs)
      · simpa using this
      · rcases hs with ⟨h3, _⟩ | ⟨ad, c2, hvv, r⟩
        · rw [h3] at h0; simp [evsL] at h0
        · have hs' : E.Evs w B (.slice (some ad) bs.length c2) bs := .inr ⟨ad, c2, rfl, r⟩
          injection hvv with e1 e2 e3
          exact ⟨ad, e1, evs_cells hs'⟩
      · have : 0 + j < cur.size := by omega
        simp only [World.cell?, hh]
        simp [show j < cur.size by omega]
      · simp [World.frozen?, hh]
  · have := own_sets (evsL bs) 0 w xs h (by rw [evsL_len, hx]; omega)
    unfold EvRow
    have e : xs.take 0 ++ evsL bs ++ xs.drop (0 + (evsL bs).length) = evsL bs := by
      rw [List.drop_of_length_le (by rw [evsL_len, hx]; omega)]; simp
    rw [e] at this
    exact this
/-- A part of a row. -/
theorem part_evs {w : World} {base g cap L lo M : Nat} {es : List Ev} (h : EvRow w base (.slice (some ⟨g, 0, none⟩) L cap) es) (hL : es.length = L) (hM : lo + M ≤ L) (hc : L ≤ cap) : E.Evs w w.heap.size (.slice (some ((⟨g, 0, none⟩ : Addr).add (lo * 8))) M (cap - lo)) ((es.drop lo).take M) := by
  have hl : ((es.drop lo).take M).length = M := by rw [List.length_take, List.length_drop]; omega
  have hblk : g < w.heap.size := by
    obtain ⟨cur, hh⟩ := ev_blk h (g := g) rfl
    exact lt_of_block hh
  refine evs_of hl.symm (by omega) (fun _ => by rw [add_block]; exact hblk) (fun j u hu => ?_)
  have hj := (List.getElem?_eq_some_iff.1 hu).1
  rw [evsL_len, hl] at hj
  rw [evsL_take, evsL_drop, List.getElem?_take, if_pos hj, List.getElem?_drop] at hu
  rw [Addr.add_add]
  subst hL
  exact World.ownsRow.cells h rfl _ u hu
theorem seg_show {L cap lo hi per k M C2 : Nat} {q q2 : Option Addr} {es : List Ev} (hL : es.length = L) (hlo : k * per = lo) (hhi : min (lo + per) L = hi) (hle : lo ≤ hi) (hM : hi - lo = M) (hC2 : cap - lo = C2)
    (hq2 : (if cap = lo then q else Option.map (fun x => x.add (lo * 8)) q) = q2) : (seg es per k).length = M ∧ seg es per k = (es.drop lo).take M ∧ (∀ u base, EvRow u base (.slice q L cap) es → E.Evs u u.heap.size (.slice q2 M C2) (seg es per k)) ∧ (0 < M → ∀ u base, EvRow u base (.slice q L cap) es → ∃ g, q = some ⟨g, 0, none⟩ ∧ q2 = some ⟨g, lo * 8, none⟩) := by
  have hl : (seg es per k).length = M := by rw [seg_len, hlo, hL]; omega
  have he : seg es per k = (es.drop lo).take M := by
    unfold seg
    rw [hlo]
    refine List.take_eq_take_iff.2 ?_
    rw [List.length_drop, hL]
    omega
  refine ⟨hl, he, fun u base h => ?_, fun h0 u base h => ?_⟩
  · rcases h.2 with ⟨h1, h2⟩ | ⟨g, cap', cur, h1, _, hh, h2, _⟩
    · cases h1
      have hM0 : M = 0 := by omega
      have hs : seg es per k = [] := List.eq_nil_of_length_eq_zero (by omega)
      have h3 : q2 = none := by rw [← hq2]; split <;> rfl
      rw [hs, h3, hM0, show C2 = 0 by omega]
      exact .inl ⟨rfl, rfl⟩
    · cases h1
      by_cases hcl : cap = lo
      · have hM0 : M = 0 := by omega
        have hs : seg es per k = [] := List.eq_nil_of_length_eq_zero (by omega)
        rw [if_pos hcl] at hq2
        rw [hs, ← hq2, hM0, show C2 = 0 by omega]
        exact .inr ⟨_, 0, rfl, by simp, fun h => absurd h (by simp), fun j hj => absurd hj (by simp)⟩
      · rw [if_neg hcl] at hq2
        rw [← hq2, ← hC2, he]
        exact part_evs h hL (by omega) (by rw [← hL]; exact h2)
  · rcases h.2 with ⟨h1, h2⟩ | ⟨g, cap', cur, h1, _, hh, h2, _⟩
    · cases h1; omega
    · cases h1
      refine ⟨g, rfl, ?_⟩
      rw [← hq2, if_neg (by omega)]
      show some ((⟨g, 0, none⟩ : Addr).add (lo * 8)) = _
      rw [add_zero8]
theorem Both.drew {fid : Nat} {caps : Array Value} {kp : Ev → Bool} {I : World → (Nat → Prop) → List Ev → Prop} {w : World} {F P : Nat → Prop} {d l : Nat} {n : List UInt8} {per : Nat} {v : Value} {j : Jn Ev} {qs : List Ev} (C : Keeps fid caps kp I) (h : Both I w F P d l n per v j qs) : Both I w.drew F P d l n per v j qs := h.below C (E.below_drewN (Below.refl _ w) 1)
/-- A block that was made lies beside both. -/
theorem Both.beside {fid : Nat} {caps : Array Value} {kp : Ev → Bool} {I : World → (Nat → Prop) → List Ev → Prop} {w w' : World} {F P : Nat → Prop} {d l : Nat} {n : List UInt8} {per : Nat} {v : Value} {j : Jn Ev} {qs : List Ev} (C : Keeps fid caps kp I) (h : Both I w F P d l n per v j qs) (hb : Below w.heap.size w w') (lb : Nat) (h1 : w.heap.size ≤ lb) (h2 : lb < w'.heap.size) : Both I w' (fun i => F i ∧ i ≠ lb) (fun i => P i ∧ i ≠ lb) d l n per v j qs := by
  obtain ⟨F', P', a1, a2, a3, a4, hm, hi, a7⟩ := h
  refine ⟨fun i => F' i ∧ (i < w.heap.size ∨ w'.heap.size ≤ i), fun i => P' i ∧ (i < w.heap.size ∨ w'.heap.size ≤ i), fun i hi => ⟨a1 i hi.1, by have := hi.2; omega⟩, fun i hi => ⟨a2 i hi.1, by have := hi.2; omega⟩, fun i hi => ?_, fun i hl hf hp => ?_, ?_, ?_, fun i hi => a7 i hi.1⟩
  · have := a3 i (Nat.le_trans hb.size hi)
    exact ⟨⟨this.1, .inr hi⟩, this.2, .inr hi⟩
  · rcases hf.2 with h5 | h5
    · exact a4 i h5 hf.1 hp.1
    · omega
  · exact (hm.mono (G := fun i => F' i ∧ (i < w.heap.size ∨ w'.heap.size ≤ i)) (fun i hf hs => ⟨hf, .inl hs⟩) (fun i hf => hm.seven i hf.1)).below hb
  · exact C.far (C.mono hi (Q := fun i => P' i ∧ (i < w.heap.size ∨ w'.heap.size ≤ i)) (fun i hp hs => ⟨hp, .inl hs⟩)) (G := fun _ => False) ⟨hb.os, hb.tape, hb.output, hb.size, fun k hk _ => hb.block k hk⟩ (fun i _ _ => id)
/-- What turns beside both leaves both. -/
theorem Both.aside {fid : Nat} {caps : Array Value} {kp : Ev → Bool} {I : World → (Nat → Prop) → List Ev → Prop} {w w' : World} {F P G : Nat → Prop} {d l : Nat} {n : List UInt8} {per : Nat} {v : Value} {j : Jn Ev} {qs : List Ev} (C : Keeps fid caps kp I) (h : Both I w F P d l n per v j qs) (hk : Kept G w w') (hG : ∀ i, G i → ¬ F i ∧ ¬ P i) (g7 : ∀ i, G i → 7 ≤ i) : Both I w' F P d l n per v j qs := by
  obtain ⟨F', P', a1, a2, a3, a4, hm, hi, a7⟩ := h
  refine ⟨fun i => F' i ∧ (i < w.heap.size ∨ w'.heap.size ≤ i), fun i => P' i ∧ (i < w.heap.size ∨ w'.heap.size ≤ i), fun i hi => a1 i hi.1, fun i hi => a2 i hi.1, fun i hi => ?_, fun i hl hf hp => ?_, ?_, ?_, a7⟩
  · have := a3 i (Nat.le_trans hk.size hi)
    exact ⟨⟨this.1, .inr hi⟩, this.2, .inr hi⟩
  · rcases hf.2 with h5 | h5
    · exact a4 i h5 hf.1 hp.1
    · omega
  · exact (hm.mono (G := fun i => F' i ∧ (i < w.heap.size ∨ w'.heap.size ≤ i)) (fun i hf hs => ⟨hf, .inl hs⟩) (fun i hf => hm.seven i hf.1)).farF hk (fun i hf hs hg => (hG i hg).1 (a1 i hf.1)) g7
  · exact C.far (C.mono hi (Q := fun i => P' i ∧ (i < w.heap.size ∨ w'.heap.size ≤ i)) (fun i hp hs => ⟨hp, .inl hs⟩)) hk (fun i hp hs hg => (hG i hg).2 (a2 i hp.1))
theorem zero_cells (w : World) (lb o : Nat) : w.setCells lb o (evsL [zeroE]) = (((((((w.setCell ⟨lb, o, none⟩ (.string ⟨#[]⟩)).setCell ⟨lb, o + 1, none⟩ (.int .i64 0)).setCell ⟨lb, o + 2, none⟩ (.int .i64 0)).setCell ⟨lb, o + 3, none⟩ (.int .i64 0)).setCell ⟨lb, o + 4, none⟩ (.string ⟨#[]⟩)).setCell ⟨lb, o + 5, none⟩ (.string ⟨#[]⟩)).setCell ⟨lb, o + 6, none⟩ (.int .i64 0)).setCell ⟨lb, o + 7, none⟩ (.string ⟨#[]⟩) := rfl
/-- Both again, behind turns of the journal's. -/
theorem Both.join {fid : Nat} {caps : Array Value} {kp : Ev → Bool} {I : World → (Nat → Prop) → List Ev → Prop} {w w' : World} {F P F2 P2 F' P' : Nat → Prop} {d l : Nat} {n : List UInt8} {per : Nat} {v : Value} {j : Jn Ev} {qs : List Ev} (C : Keeps fid caps kp I) (a1 : ∀ i, F' i → F2 i) (a2 : ∀ i, P' i → P2 i) (a3 : ∀ i, w.heap.size ≤ i → F' i ∧ P' i) (a4 : ∀ i, i < w.heap.size → F' i → ¬ P' i) (hi : I w P' qs) (hm : LogM w' F' d l n per v j) (hk : Kept F' w w') (b1 : ∀ i, F2 i → F i) (b2 : ∀ i, P2 i → P i) (a7 : ∀ i, P i → 7 ≤ i) : Both I w' F P d l n per v j qs := by
  refine ⟨F', fun i => P' i ∧ (i < w.heap.size ∨ w'.heap.size ≤ i), fun i h => b1 i (a1 i h), fun i h => b2 i (a2 i h.1), fun i h => ?_, fun i hl hf hp => ?_, hm, ?_, a7⟩
  · have := a3 i (Nat.le_trans hk.size h)
    exact ⟨this.1, this.2, .inr h⟩
  · rcases hp.2 with h5 | h5
    · exact a4 i h5 hf hp.1
    · omega
  · exact C.far (C.mono hi (Q := fun i => P' i ∧ (i < w.heap.size ∨ w'.heap.size ≤ i)) (fun i hp hs => ⟨hp, .inl hs⟩)) hk (fun i hp hs hf => a4 i hs hf hp.1)
theorem EvRow.drew {w : World} {base : Nat} {v : Value} {l : List Ev} (h : EvRow w base v l) : EvRow w.drew base v l := h
/-- The row is turned where it stands. -/
theorem LogM.inRow {w w' : World} {F : Nat → Prop} {d l : Nat} {n : List UInt8} {per : Nat} {v : Value} {j : Jn Ev} (h : LogM w F d l n per v j) (hg : w.grownBy w' v.ownBlock) {es' : List Ev} (hr : EvRow w' 0 v es') (hl : es'.length = j.es.length) : LogM w' F d l n per v ⟨j.dk, j.files, es', j.lasts, j.stuck⟩ ∧ Kept F w w' := by
  have hK : Kept F w w' := (Kept.refl F w).grown hg (fun i hi => .inr (h.fg i hi))
  have hk : Kept (fun i => v.ownBlock = some i) w w' := (Kept.refl _ w).grown hg (fun i hi => .inr hi)
  refine ⟨⟨h.self.kept hg (fun e => ev_ne h.row h.self (by decide) e.symm), hr, ?_, h.fl, h.fg, lay_kept h.lay hK h.seven, h.seven, h.name, h.per1, by rw [hl]; exact h.small.1, h.small.2⟩, hK⟩
  exact (h.sep.far hk (fun i hi _ e => hi.2 e)).mono (fun i hi _ => hi.sub)
theorem min_nat {a b c d : Nat} (h : min (a + b) c = d) : min ((a : Int) + (b : Int)) (c : Int) = (d : Int) := by omega
section
variable {fid : Nat} {caps : Array Value} {kp : Ev → Bool} {I : World → (Nat → Prop) → List Ev → Prop}
variable {w w' : World} {F P : Nat → Prop} {d l : Nat} {n : List UInt8} {per : Nat} {v v' : Value} {j j' : Jn Ev} {qs : List Ev}
theorem Both.logm (h : Both I w F P d l n per v j qs) (h7 : ∀ i, F i → 7 ≤ i) : LogM w F d l n per v j := by
  obtain ⟨F', P', h1, h2, h3, h4, hm, hi, _⟩ := h
  exact hm.mono (fun i hi _ => h1 i hi) h7
set_option maxRecDepth 100000 in
set_option maxHeartbeats 2000000 in
theorem rewrite_any (C : Keeps fid caps kp I) (h : Both I w F P d l n per v j qs) (h7 : ∀ i, F i → 7 ≤ i) (hok : ∀ e ∈ j.es, OkE e) (k lo hi : Nat) (hlo : k * per = lo) (hhi : min ((k + 1) * per) j.es.length = hi) (hle : lo ≤ hi) (hq : qs.length + j.es.length ≤ 1048576) :
    Calls Tryz.prog 71 #[.pointer (some ⟨l, 0, none⟩), .int .i64 (k : Int), .func (.func fid) #[] caps] w fun e w' => e = .returned (.tuple #[.int .i64 ((jrew1 pay n per gone kp zeroE k j).2.1 : Int), .int .i64 ((jrew1 pay n per gone kp zeroE k j).2.2 : Int)]) ∧
      ∃ v', Both I w' F P d l n per v' (jrew1 pay n per gone kp zeroE k j).1 (qs ++ (seg j.es per k).filter fun e => !gone e) ∧ Kept (fun i => F i ∨ P i) w w' := by
  have hm := h.logm h7
  obtain ⟨hp1, hp2⟩ := hm.per1
  have hsm := hm.small.1
  obtain ⟨q, cap, hv⟩ := hm.row.len
  have c4 := hm.self.c 4 rfl
  have c2 := hm.self.c 2 rfl
  obtain ⟨L, hL⟩ : ∃ L, j.es.length = L := ⟨_, rfl⟩
  rw [hL] at hv hhi hsm hq
  rw [hv] at c4
  have hlo2 : (k + 1) * per = lo + per := by rw [Nat.succ_mul, hlo]
  rw [hlo2] at hhi
  have hiL : hi ≤ L := by omega
  have e1 : (k : Int) * (per : Int) = (lo : Int) := by rw [← hlo]; simp
  have e2 : wrap64 ((lo : Int)) = (lo : Int) := wrap_nat (by omega)
  have e3 : wrap64 ((k : Int) + 1) = (k : Int) + 1 := by
    have : k ≤ lo := by rw [← hlo]; exact Nat.le_mul_of_pos_right k (by omega)
    exact wrap_nat (by omega)
  have e4 : ((k : Int) + 1) * (per : Int) = (lo : Int) + (per : Int) := by rw [Int.add_mul, e1]; simp
  have e5 : wrap64 ((lo : Int) + (per : Int)) = (lo : Int) + (per : Int) := wrap_nat (by omega)
  have e6 : min ((lo : Int) + (per : Int)) (L : Int) = (hi : Int) := min_nat hhi
  have hcap : q = none → L = 0 := by
    rintro rfl
    rcases hm.row.2 with ⟨h1, h2⟩ | ⟨g, cap', cur, h1, _⟩
    · rw [← hL]; exact h2
    · rw [hv] at h1; cases h1
  have hLc : L ≤ cap := by
    rcases hm.row.2 with ⟨h1, h2⟩ | ⟨g, cap', cur, h1, _, _, h2, _⟩
    · rw [hL] at h2; omega
    · rw [hv] at h1; cases h1; rw [← hL]; exact h2
  have f1 : (lo : Int) ≤ (hi : Int) := Int.ofNat_le.2 hle
  have f2 : (0 : Int) ≤ (lo : Int) := Int.natCast_nonneg _
  have f3 : (hi : Int) ≤ (cap : Int) := Int.ofNat_le.2 (Nat.le_trans hiL hLc)
  have f4 : (0 : Int) ≤ (hi : Int) := Int.natCast_nonneg _
  have f5 : (lo : Int) ≤ (cap : Int) := Int.ofNat_le.2 (Nat.le_trans hle (Nat.le_trans hiL hLc))
  have HM := Lib.hid hm
  have HC := Lib.hid h
  have HOK := Lib.hid hok
  have HLO := Lib.hid hlo
  have HHI := Lib.hid hhi
  have HLO2 := Lib.hid hlo2
  have HLE := Lib.hid hle
  have HIL := Lib.hid hiL
  have HLC := Lib.hid hLc
  have HQ := Lib.hid hq
  have HS6 := Lib.hid hsm
  have HL := Lib.hid hL
  have HV := Lib.hid hv
  have HCAP := Lib.hid hcap
  have HP1 := Lib.hid hp1
  have HP2 := Lib.hid hp2
  clear hm h hok hlo hhi hlo2 hle hiL hLc hq hsm hL hv hcap hp1 hp2
  go_enter Tryz.func71, Tryz.ntmps71
  go_wp2_with fail
  go_region
  obtain ⟨M, hM⟩ : ∃ M, hi - lo = M := ⟨_, rfl⟩
  obtain ⟨C2, hC2⟩ : ∃ C2, cap - lo = C2 := ⟨_, rfl⟩
  obtain ⟨q2, hq2⟩ : ∃ q2, (if cap = lo then q else Option.map (fun x => x.add (lo * 8)) q) = q2 := ⟨_, rfl⟩
  obtain ⟨t1, t2, t3, t4⟩ := seg_show HL.out HLO.out HHI.out HLE.out hM hC2 hq2
  rw [hq2, hM, hC2]
  have HSL := Lib.hid t1
  have HSE := Lib.hid t2
  have HSV := Lib.hid t3
  have HSQ := Lib.hid t4
  have HP7 : Hid (∀ i, P i → 7 ≤ i) := Lib.hid (by obtain ⟨_, _, _, _, _, _, _, _, a7⟩ := HC.out; exact a7)
  have HMM : Hid (M ≤ 1048576) := Lib.hid (by have := HIL.out; have := HS6.out; omega)
  have hb0 := HC.out.drew C
  clear hM hC2 hq2 t1 t2 t3 t4 c4 c2 e1 e2 e3 e4 e5 e6 f1 f2 f3 f4 f5
  revert hb0
  have hkd : Kept (fun i => F i ∨ P i) w w.drew := (Kept.refl _ w).drew
  revert hkd
  generalize w.drew = w0
  intro hkd hb0
  have HKD := Lib.hid hkd
  have HB0 := Lib.hid hb0
  obtain ⟨i0, hi0, hz0, hz1, hz2⟩ := info52_parts
  obtain ⟨w1, hrun, hrow, hg1⟩ := run_make_full (P := Tryz.prog) (w := w0) w0.heap.size 62 52 i0 _ 8 Tryz.underlying62 hi0 hz0 hz1 .i64 .i64 M (by rw [hz2]; have := HMM.out; omega) (by have := HMM.out; unfold maxLen; omega) (Nat.le_refl _)
  have hm0 := hb0.logm h7
  have hb0l7 : 7 ≤ w0.heap.size := hm0.lay.sz
  have hr1 : EvRow w1 0 v j.es := World.ownsRow.kept hm0.row hg1 (by cases v.ownBlock <;> simp)
  have hsv1 : E.Evs w1 w1.heap.size (.slice q2 M C2) (seg j.es per k) := HSV.out w1 0 (by rw [← HV.out]; exact hr1)
  obtain ⟨hcopy, hleft⟩ := copy_raw hrow HSL.out q2 C2 _ hsv1
  obtain ⟨lb, hlb⟩ : ∃ lb, w0.heap.size = lb := ⟨_, rfl⟩
  have hbel : Below w0.heap.size w0 (w1.setCells w0.heap.size 0 (evsL (seg j.es per k))) := below_setCells _ _ _ (Nat.le_refl _) _ _ _ ((Below.refl _ w0).grown hg1 (Nat.le_refl _) (fun j hj => by cases hj))
  have hlb2 : lb < (w1.setCells w0.heap.size 0 (evsL (seg j.es per k))).heap.size := by
    obtain ⟨cur, hh⟩ := ev_blk hleft (g := w0.heap.size) rfl
    rw [← hlb]; exact lt_of_block hh
  have hb2 := hb0.beside C hbel lb (by omega) hlb2
  have hk2 : Kept (fun i => F i ∨ P i) w (w1.setCells w0.heap.size 0 (evsL (seg j.es per k))) := Kept.bel hkd hbel
  rw [hlb] at hrun hcopy hleft hb2 hk2 hlb2
  have HLEFT := Lib.hid hleft
  have HB2 := Lib.hid hb2
  have HK2 := Lib.hid hk2
  have HLB2 := Lib.hid hlb2
  have HLW : Hid (w.heap.size ≤ lb) := Lib.hid (by rw [← hlb]; exact hkd.size)
  have HL7 : Hid (7 ≤ lb) := Lib.hid (by rw [← hlb]; exact hb0l7)
  have hMi : ((M : Nat) : Int) = (M : Int) := rfl
  clear hb0l7 hrow hg1 hm0 hr1 hsv1 hleft hbel hlb hb2 hk2 hlb2 hb0 HB0 hkd HKD hMi
  go_wp2_with fail
  have HENT := C.ent
  have hMb : M ≤ 1048576 := HMM.out
  have H7 : Hid (∀ i, (fun i => F i ∧ i ≠ lb) i → 7 ≤ i) := Lib.hid (fun i hi => h7 i hi.1)
  go_loopw [10, 46] (fun c i wr => ∃ m : Nat, m ≤ M ∧ i = .int .i64 m ∧ c = .int .i64 (cnt gone kp ((seg j.es per k).take m) : Nat) ∧ Hid (EvRow wr lb (.slice (some ⟨lb, 0, none⟩) M M) (((seg j.es per k).take m).map (rw1 gone kp zeroE) ++ (seg j.es per k).drop m)) ∧ Hid (Both I wr (fun i => F i ∧ i ≠ lb) (fun i => P i ∧ i ≠ lb) d l n per v j (qs ++ ((seg j.es per k).take m).filter fun e => !gone e)) ∧ Hid (Kept (fun i => F i ∨ P i) w wr)) (fun _ i _ => M - (intOf i).toNat)
  case atStart =>
    refine ⟨0, by omega, rfl, rfl, ?_, ?_, HK2⟩
    · simpa using HLEFT
    · simpa using HB2
  case round =>
    obtain ⟨m, hm, rfl, rfl, HE, HB, HK⟩ := hrel
    by_cases hlt : m < M
    · have hke : m < (seg j.es per k).length := by rw [HSL.out]; exact hlt
      have hmr := HB.out.logm H7.out
      have hevs := HSV.out wr 0 (by rw [← HV.out]; exact hmr.row)
      have hevs2 := hevs
      rw [← HSL.out] at hevs2
      obtain ⟨ad, hq2, hab, hc⟩ := hevs2.at m hke
      rw [HSL.out] at hevs2
      have hokk : OkE (seg j.es per k)[m] := HOK.out _ (by
        have := List.getElem_mem hke
        unfold seg at this
        exact List.mem_of_mem_drop (List.mem_of_mem_take this))
      have s1 := left_get (f := rw1 gone kp zeroE) hke
      have s2 := left_same (f := rw1 gone kp zeroE) hke
      have s3 := cnt_step (kp := kp) hke
      have s4 := filt_step hke
      have hql : (qs ++ ((seg j.es per k).take m).filter fun e => !gone e).length ≤ 1048576 := by
        rw [List.length_append]
        have := List.length_filter_le (fun e => !gone e) ((seg j.es per k).take m)
        rw [List.length_take] at this
        have := HQ.out
        have := HIL.out
        have := HSL.out
        have h1 : M ≤ L := by rw [← HSL.out, seg_len, HL.out]; omega
        omega
      have hask : ∀ (e : Ev) (u : World), Both I u (fun i => F i ∧ i ≠ lb) (fun i => P i ∧ i ≠ lb) d l n per v j (qs ++ ((seg j.es per k).take m).filter fun e => !gone e) → Calls Tryz.prog fid (#[evV e] ++ caps) u fun x w' => x = .returned (.bool (kp e)) ∧ Both I w' (fun i => F i ∧ i ≠ lb) (fun i => P i ∧ i ≠ lb) d l n per v j ((qs ++ ((seg j.es per k).take m).filter fun e => !gone e) ++ [e]) ∧ Kept (fun i => P i ∧ i ≠ lb) u w' := fun e u hu => hu.ask C e hql
      have HASK := Lib.hid hask
      subst hq2
      obtain ⟨ev, hev⟩ : ∃ ev, (seg j.es per k)[m] = ev := ⟨_, rfl⟩
      rw [hev] at hc hokk s1 s2 s3 s4
      obtain ⟨s, n', a, kd, p, i, vv, t⟩ := ev
      obtain ⟨c0, c1, c2, c3, c4, c5, c6, c7⟩ := hc
      simp only at c0 c1 c2 c3 c4 c5 c6 c7
      have HS1 := Lib.hid s1
      have HS2 := Lib.hid s2
      have HS3 := Lib.hid s3
      have HS4 := Lib.hid s4
      have HKE := Lib.hid hke
      clear s1 s2 s3 s4 hql hask hev hke hmr hevs hevs2
      by_cases hg : gone (⟨s, n', a, kd, p, i, vv, t⟩ : Ev) = true
      · have hz := hokk.isZ hg
        have hd0 : drops gone kp (⟨s, n', a, kd, p, i, vv, t⟩ : Ev) = false := by unfold drops; rw [hg]; rfl
        have HX : Hid (((seg j.es per k).take (m + 1)).map (rw1 gone kp zeroE) ++ (seg j.es per k).drop (m + 1) = ((seg j.es per k).take m).map (rw1 gone kp zeroE) ++ (seg j.es per k).drop m) := Lib.hid (HS2.out (by unfold rw1; rw [hd0]; rfl))
        have HY : Hid (cnt gone kp ((seg j.es per k).take (m + 1)) = cnt gone kp ((seg j.es per k).take m)) := Lib.hid (by rw [HS3.out, hd0]; rfl)
        have HW : Hid (((seg j.es per k).take (m + 1)).filter (fun e => !gone e) = ((seg j.es per k).take m).filter fun e => !gone e) := Lib.hid (by rw [HS4.out, if_pos hg]; simp)
        clear HS1 HS2 HS3 HS4 HASK hd0
        cases hz
        clear hokk hg
        go_wp2_with fail
        refine (erased_zero _).mono ?_
        rintro e w3 ⟨rfl, hb3⟩
        have hA : Below wr.heap.size wr w3 := ((Below.refl _ wr).alloc (Nat.le_refl _) _).trans (hb3.mono (by simp))
        have HE3 : Hid (EvRow w3 lb (.slice (some ⟨lb, 0, none⟩) M M) (((seg j.es per k).take (m + 1)).map (rw1 gone kp zeroE) ++ (seg j.es per k).drop (m + 1))) := Lib.hid (by rw [HX.out]; exact HE.out.below hA (Nat.le_refl _))
        have HB3 : Hid (Both I w3 (fun i => F i ∧ i ≠ lb) (fun i => P i ∧ i ≠ lb) d l n per v j (qs ++ ((seg j.es per k).take (m + 1)).filter fun e => !gone e)) := Lib.hid (by rw [HW.out]; exact HB.out.below C hA)
        have HK3 := Lib.hid (Kept.bel HK.out hA)
        clear hb3 hA HE HB HK c0 c1 c2 c3 c4 c5 c6 c7
        go_wp2_with fail
        exact ⟨⟨m + 1, by omega, by go_num, by rw [HY.out], HE3, HB3, HK3⟩, by simp only [intOf]; omega⟩
      · have hg' : gone (⟨s, n', a, kd, p, i, vv, t⟩ : Ev) = false := by simpa using hg
        have hsz := may_size (hokk.isM hg')
        have HW : Hid (((seg j.es per k).take (m + 1)).filter (fun e => !gone e) = (((seg j.es per k).take m).filter fun e => !gone e) ++ [⟨s, n', a, kd, p, i, vv, t⟩]) := Lib.hid (by rw [HS4.out, if_neg hg])
        have hdr : drops gone kp (⟨s, n', a, kd, p, i, vv, t⟩ : Ev) = !kp ⟨s, n', a, kd, p, i, vv, t⟩ := by unfold drops; rw [hg']; rfl
        have HDR := Lib.hid hdr
        clear hg hg' hokk HS4 hdr
        go_wp2_with fail
        refine (erased_may s n' a kd p i vv t hsz _).mono ?_
        rintro e w3 ⟨rfl, hb3⟩
        have hA : Below wr.heap.size wr w3 := ((Below.refl _ wr).alloc (Nat.le_refl _) _).trans (hb3.mono (by simp))
        have e1 : Blk w3 wr.heap.size [.string s, .int .i64 n', .int .i64 a, .int .i64 kd, .string p, .string i, .int .i64 vv, .string t] 52 := (Blk.new wr [.string s, .int .i64 n', .int .i64 a, .int .i64 kd, .string p, .string i, .int .i64 vv, .string t] 52).below hb3 (by simp)
        have b0 := e1.c 0 rfl
        have b1 := e1.c 1 rfl
        have b2 := e1.c 2 rfl
        have b3 := e1.c 3 rfl
        have b4 := e1.c 4 rfl
        have b5 := e1.c 5 rfl
        have b6 := e1.c 6 rfl
        have b7 := e1.c 7 rfl
        have HE3 := Lib.hid (HE.out.below hA (Nat.le_refl _))
        have HB3 := Lib.hid (HB.out.below C hA)
        have HK3 := Lib.hid (Kept.bel HK.out hA)
        clear hb3 hA e1 HE HB HK c0 c1 c2 c3 c4 c5 c6 c7
        go_wp2_with fail
        refine (HASK.out ⟨s, n', a, kd, p, i, vv, t⟩ w3 HB3.out).mono ?_
        obtain ⟨b, hb⟩ : ∃ b, kp ⟨s, n', a, kd, p, i, vv, t⟩ = b := ⟨_, rfl⟩
        rw [hb]
        have HBB := Lib.hid hb
        rintro e w4 ⟨rfl, hb4, hk4⟩
        have HE4 := Lib.hid (HE3.out.keptF hk4 (fun g hg hp => hp.2 (by cases hg; rfl)))
        have HB4 := Lib.hid (by rw [List.append_assoc, ← HW.out] at hb4; exact hb4)
        have HK4 : Hid (Kept (fun i => F i ∨ P i) w w4) := Lib.hid (HK3.out.trans (hk4.mono (fun i hi => .inr hi.1)))
        clear hb4 hk4 hb HE3 HB3 HK3 HASK b0 b1 b2 b3 b4 b5 b6 b7
        cases b
        · have hdt : drops gone kp (⟨s, n', a, kd, p, i, vv, t⟩ : Ev) = true := by rw [HDR.out, HBB.out]; rfl
          have HX := Lib.hid (HS1.out)
          have hrw : rw1 gone kp zeroE (⟨s, n', a, kd, p, i, vv, t⟩ : Ev) = zeroE := by unfold rw1; rw [if_pos hdt]
          rw [hrw] at HX
          have HY : Hid (cnt gone kp ((seg j.es per k).take (m + 1)) = cnt gone kp ((seg j.es per k).take m) + 1) := Lib.hid (by rw [HS3.out, if_pos hdt])
          have hcn : cnt gone kp ((seg j.es per k).take m) ≤ m := by
            have := List.countP_le_length (p := drops gone kp) (l := (seg j.es per k).take m)
            rw [List.length_take] at this
            unfold cnt
            omega
          obtain ⟨⟨e2, y0, y1, y2, y3, y4, y5, y6, y7⟩, hfr⟩ := left_cells HE4.out (by rw [left_len (by have := HKE.out; omega), HSL.out]) (m := m) (by rw [left_len (by have := HKE.out; omega)]; exact HKE.out)
          have f0 := hfr (m * 8)
          have f1 := hfr (m * 8 + 1)
          have f2 := hfr (m * 8 + 2)
          have f3 := hfr (m * 8 + 3)
          have f4 := hfr (m * 8 + 4)
          have f5 := hfr (m * 8 + 5)
          have f6 := hfr (m * 8 + 6)
          have f7 := hfr (m * 8 + 7)
          clear hfr
          clear HS1 HS2 HS3 hdt hrw
          have hL4 : M = (((seg j.es per k).take m).map (rw1 gone kp zeroE) ++ (seg j.es per k).drop m).length := by rw [left_len (by have := HKE.out; omega), HSL.out]
          have hE5 := ev_sets (bs := [zeroE]) hL4 HE4.out m (by rw [← hL4]; show m + 1 ≤ M; omega)
          rw [show m + [zeroE].length = m + 1 from rfl, ← HX.out] at hE5
          have hk5 : Kept (fun i => i = lb) w4 (w4.setCells lb (m * 8) (evsL [zeroE])) := (Kept.refl _ w4).grown (grown_setCells lb _ _ _) (fun i hi => by cases hi; exact .inr rfl)
          have hb5 := HB4.out.aside C hk5 (fun i hi => by subst hi; exact ⟨fun h => h.2 rfl, fun h => h.2 rfl⟩) (fun i hi => by subst hi; exact HL7.out)
          have hk6 : Kept (fun i => F i ∨ P i) w (w4.setCells lb (m * 8) (evsL [zeroE])) := HK4.out.grown (grown_setCells lb _ _ _) (fun i hi => by cases hi; exact .inl HLW.out)
          rw [zero_cells] at hE5 hb5 hk6
          have HE5 := Lib.hid hE5
          have HB5 := Lib.hid hb5
          have HK6 := Lib.hid hk6
          clear hL4 hE5 hk5 hb5 hk6
          go_wp2_with fail
          refine ⟨⟨m + 1, by omega, by go_num, by rw [HY.out]; rfl, HE5, HB5, HK6⟩, by simp only [intOf]; omega⟩
        · have hdt : drops gone kp (⟨s, n', a, kd, p, i, vv, t⟩ : Ev) = false := by rw [HDR.out, HBB.out]; rfl
          have HX : Hid (((seg j.es per k).take (m + 1)).map (rw1 gone kp zeroE) ++ (seg j.es per k).drop (m + 1) = ((seg j.es per k).take m).map (rw1 gone kp zeroE) ++ (seg j.es per k).drop m) := Lib.hid (HS2.out (by unfold rw1; rw [hdt]; rfl))
          have HY : Hid (cnt gone kp ((seg j.es per k).take (m + 1)) = cnt gone kp ((seg j.es per k).take m)) := Lib.hid (by rw [HS3.out, hdt]; rfl)
          rw [← HX.out] at HE4
          clear HS1 HS2 HS3 hdt
          go_wp2_with fail
          exact ⟨⟨m + 1, by omega, by go_num, by rw [HY.out], HE4, HB4, HK4⟩, by simp only [intOf]; omega⟩
    · obtain rfl : m = M := by omega
      have htk : (seg j.es per k).take m = seg j.es per k := List.take_of_length_le (by rw [HSL.out]; exact Nat.le_refl _)
      have hdp : (seg j.es per k).drop m = [] := List.drop_of_length_le (by rw [HSL.out]; exact Nat.le_refl _)
      rw [htk, hdp, List.append_nil] at HE
      rw [htk] at HB ⊢
      obtain ⟨N, hN⟩ : ∃ N, cnt gone kp (seg j.es per k) = N := ⟨_, rfl⟩
      rw [hN]
      have HN := Lib.hid hN
      clear htk hdp hN HLEFT HB2 HK2 hrun hcopy
      by_cases hN0 : N = 0
      · subst hN0
        have HJ : Hid (jrew1 pay n per gone kp zeroE k j = (j, 0, 0)) := Lib.hid (by unfold jrew1; rw [if_pos HN.out])
        go_wp2_with fail
        go_ret2
        rw [HJ.out]
        refine ⟨rfl, ⟨v, ?_⟩, HK.out⟩
        obtain ⟨F', P', a1, a2, a3, a4, hm, hi, a7⟩ := HB.out
        have g7 : ∀ i, P i → 7 ≤ i := HP7.out
        exact ⟨F', P', fun i hi => (a1 i hi).1, fun i hi => (a2 i hi).1, a3, a4, hm, hi, g7⟩
      · have hNz : ¬ (N : Int) = 0 := by omega
        obtain ⟨F', P', a1, a2, a3, a4, hm, hi, a7⟩ := HB.out
        have HJ : Hid (jrew1 pay n per gone kp zeroE k j = if replaceE j.dk (fileN n k) (byt pay ((seg j.es per k).map (rw1 gone kp zeroE))) ≠ 0 then
            (⟨replaceD j.dk (fileN n k) (byt pay ((seg j.es per k).map (rw1 gone kp zeroE))), j.files, j.es, j.lasts, replaceE j.dk (fileN n k) (byt pay ((seg j.es per k).map (rw1 gone kp zeroE)))⟩, 0, replaceE j.dk (fileN n k) (byt pay ((seg j.es per k).map (rw1 gone kp zeroE))))
          else (⟨replaceD j.dk (fileN n k) (byt pay ((seg j.es per k).map (rw1 gone kp zeroE))), j.files, putSeg per j.es k ((seg j.es per k).map (rw1 gone kp zeroE)), if k + 1 = j.files then j.es.length else j.lasts, 0⟩, N, 0)) := Lib.hid (by unfold jrew1; rw [HN.out, if_neg hN0])
        have hbok : ∀ e ∈ (seg j.es per k).map (rw1 gone kp zeroE), OkE e := by
          intro e he
          obtain ⟨x, hx, rfl⟩ := List.mem_map.1 he
          unfold rw1
          split
          · exact .inl rfl
          · refine HOK.out _ ?_
            unfold seg at hx
            exact List.mem_of_mem_drop (List.mem_of_mem_take hx)
        have hbl : ((seg j.es per k).map (rw1 gone kp zeroE)).length = m := by rw [List.length_map, HSL.out]
        obtain ⟨bl, hblk⟩ : ∃ bl, (seg j.es per k).map (rw1 gone kp zeroE) = bl := ⟨_, rfl⟩
        rw [hblk] at HJ HE hbok hbl
        have hby := byt_len pay (l := bl) (fun x hx => pay_short (hbok x hx))
        have hm4 : m ≤ 4096 := by rw [← HSL.out, seg_len]; have := HP2.out; omega
        have p0 := hm.self.c 0 rfl
        have HM := Lib.hid hm
        have HI := Lib.hid hi
        have HA1 := Lib.hid a1
        have HA2 := Lib.hid a2
        have HA3 := Lib.hid a3
        have HA4 := Lib.hid a4
        have HFF : Hid (∀ i, wr.heap.size ≤ i → F' i) := Lib.hid (fun i hi => (a3 i hi).1)
        have HBOK := Lib.hid hbok
        have HBL := Lib.hid hbl
        have HB5 : Hid (bl.length ≤ 100000) := Lib.hid (by omega)
        have HBY : Hid ((byt pay bl).length ≤ 10000000) := Lib.hid (by omega)
        have hk6 : k ≤ 1048576 := by
          have h1 : k ≤ lo := by rw [← HLO.out]; exact Nat.le_mul_of_pos_right k HP1.out
          have := HLE.out; have := HIL.out; have := HS6.out
          omega
        have HKS : Hid (k ≤ 9223372036854775807) := Lib.hid (Nat.le_trans hk6 (by decide))
        have HFS : Hid ((fileN n k).length ≤ 1000000) := Lib.hid (fileN_short hm.name hk6)
        have HKB := Lib.hid hblk
        have HM0 : Hid (0 < m) := Lib.hid (by
          rcases Nat.eq_zero_or_pos m with h0 | h0
          · exfalso
            have h1 : seg j.es per k = [] := List.eq_nil_of_length_eq_zero (by rw [HSL.out]; exact h0)
            have h2 := HN.out
            rw [h1] at h2
            exact hN0 h2.symm
          · exact h0)
        clear hm hi a1 a2 a3 a4 a7 hbok hbl hby hN0 hm4 hk6 hblk HB
        go_wp2_with fail
        go_upto_region 14 with fail
        go_region_held3 (fun w' => w'.cell? ⟨l, 0, none⟩ = some (.pointer (some ⟨d, 0, none⟩))) (first | exact p0 | assumption)
          (first | (go_at_call 82; refine (file_any (F := F') (d := d) (n := n) (per := per) (v := v) (j := j) (by with_reducible (repeat (first | exact HM.out | refine LogM.drew ?_ | refine LogM.alloc ?_ _ | refine LogM.below ?_ (by assumption)))) k HKS.out).mono ?_; rintro e wa ⟨rfl, hba⟩; have pa := (LogM.self (F := F') (d := d) (l := l) (n := n) (per := per) (v := v) (j := j) (w := wa) (by with_reducible (repeat (first | exact HM.out | refine LogM.drew ?_ | refine LogM.alloc ?_ _ | refine LogM.below ?_ (by assumption))))).c 0 rfl) | (go_at_call 90; refine (frames_any _ bl HBOK.out HB5.out _ (by refine EvRow.evs (base := lb) ?_; with_reducible (repeat (first | exact HE.out | refine EvRow.drew ?_ | refine EvRow.below ?_ (by assumption) (Nat.le_refl _)))) (LogM.lay (F := F') (d := d) (l := l) (n := n) (per := per) (v := v) (j := j) (by with_reducible (repeat (first | exact HM.out | refine LogM.drew ?_ | refine LogM.alloc ?_ _ | refine LogM.below ?_ (by assumption)))))).mono ?_; rintro e wb ⟨u, rfl, hu, hbb⟩; have pb := (LogM.self (F := F') (d := d) (l := l) (n := n) (per := per) (v := v) (j := j) (w := wb) (by with_reducible (repeat (first | exact HM.out | refine LogM.drew ?_ | refine LogM.alloc ?_ _ | refine LogM.below ?_ (by assumption))))).c 0 rfl) | (go_at_call 42; refine (D.replace_any (F := Foot F' l v) (LogM.free (d := d) (n := n) (per := per) (j := j) (by with_reducible (repeat (first | exact HM.out | refine LogM.drew ?_ | refine LogM.alloc ?_ _ | refine LogM.below ?_ (by assumption)))) (fun i hi => HFF.out i (Nat.le_trans (Kept.size (F := F') (w := wr) (by with_reducible (repeat (first | exact Kept.refl _ _ | refine Kept.drew ?_ | refine Kept.alloc ?_ _ | refine Kept.bel ?_ (by assumption))))) hi))) (LogM.sep (F := F') (d := d) (l := l) (n := n) (per := per) (v := v) (j := j) (by with_reducible (repeat (first | exact HM.out | refine LogM.drew ?_ | refine LogM.alloc ?_ _ | refine LogM.below ?_ (by assumption))))) (fileN n k) HFS.out _ (byt pay bl) (by refine Seen.own (base := 0) ?_; with_reducible (repeat (first | exact (OwnB.mono (by assumption) (Nat.zero_le _)) | refine OwnB.drew ?_ | refine OwnB.alloc ?_ _ | refine OwnB.below ?_ (by assumption) (Nat.le_refl _)))) HBY.out).mono ?_; rintro e wc ⟨rfl, hdc, hkc⟩; have HMC := Lib.hid (LogM.turn (F := F') (n := n) (per := per) (v := v) (j := j) (by with_reducible (repeat (first | exact HM.out | refine LogM.drew ?_ | refine LogM.alloc ?_ _ | refine LogM.below ?_ (by assumption)))) hdc hkc); have HKC : Hid (Kept F' wr wc) := Lib.hid (Kept.trans (by with_reducible (repeat (first | exact Kept.refl _ _ | refine Kept.drew ?_ | refine Kept.alloc ?_ _ | refine Kept.bel ?_ (by assumption)))) HMC.out.2); clear hdc hkc; have pc := HMC.out.1.self.c 0 rfl) | (go_at_call 57; refine (told_any HMC.out.1 _).mono ?_; rintro e wd ⟨rfl, hmd, hkd⟩; have HMD := Lib.hid hmd; have HKD := Lib.hid (HKC.out.trans hkd); clear hmd hkd; have pd := HMD.out.self.c 0 rfl))
        all_goals
          have HE6 : Hid (EvRow wd lb (.slice (some ⟨lb, 0, none⟩) m m) bl) := Lib.hid (HE.out.keptF HKD.out (fun g hg hf => (HA1.out g hf).2 (by cases hg; rfl)))
          have HKW : Hid (Kept (fun i => F i ∨ P i) w wd) := Lib.hid (HK.out.trans (HKD.out.mono (fun i hf => .inl (HA1.out i hf).1)))
          clear pd p0 HM HE HMC HKC HK
          obtain ⟨E, hE⟩ : ∃ E, replaceE j.dk (fileN n k) (byt pay bl) = E := ⟨_, rfl⟩
          rw [hE] at HMD HJ ⊢
          clear hE
          by_cases hz : E = 0
          · subst hz
            have HJ2 := Lib.hid ((HJ.out).trans (if_neg (by simp)))
            have hrowd := HMD.out.row
            rw [HV.out] at hrowd
            obtain ⟨g, hqg, hq2g⟩ := HSQ.out HM0.out wd 0 hrowd
            subst hqg hq2g
            have hlb6 : lo + bl.length ≤ j.es.length := by rw [HBL.out, HL.out]; have := HSL.out; rw [seg_len, HLO.out, HL.out] at this; have := HM0.out; omega
            have hcp := copy_evs HL.out.symm hrowd hlb6 m C2 HBL.out.symm (some ⟨lb, 0, none⟩) m wd.heap.size (by rw [HBL.out]; exact HE6.out.evs)
            rw [HBL.out] at hcp
            have hr6 := ev_sets HL.out.symm hrowd lo hlb6
            have hpe : j.es.take lo ++ bl ++ j.es.drop (lo + bl.length) = putSeg per j.es k bl := by unfold putSeg; rw [HLO.out]
            rw [hpe, ← HV.out] at hr6
            have hpl : (putSeg per j.es k bl).length = j.es.length := by rw [← hpe]; simp; omega
            have hg6 : wd.grownBy (wd.setCells g (lo * 8) (evsL bl)) v.ownBlock := by rw [HV.out]; exact grown_setCells g _ _ _
            have hm6 := HMD.out.inRow hg6 hr6 hpl
            simp only at hm6
            have hk6 := HKD.out.trans hm6.2
            have hkw : Kept (fun i => F i ∨ P i) w (wd.setCells g (lo * 8) (evsL bl)) := HKW.out.trans (hm6.2.mono (fun i hf => .inl (HA1.out i hf).1))
            have hm6 := hm6.1
            clear hrowd hlb6 hr6 hpe hg6 HMD HKD HKW HE6 HJ
            revert hcp hk6 hkw hm6
            generalize wd.setCells g (lo * 8) (evsL bl) = w6
            intro hcp hk6 hkw hm6
            have c3 := hm6.self.c 3 rfl
            have c4 := hm6.self.c 4 rfl
            have c5 := hm6.self.c 5 rfl
            have f5 := hm6.self.f 5
            rw [HV.out] at c4
            have fz := hm6.small.2.1
            simp only at fz c3 c5
            obtain ⟨fi, hfi⟩ : ∃ fi, j.files = fi := ⟨_, rfl⟩
            rw [hfi] at c3 fz HJ2
            have w3e : wrap64 ((fi : Int) - 1) = (fi : Int) - 1 := sub_wrap fz
            have HM6 := Lib.hid hm6
            have HK6 := Lib.hid hk6
            have HKW6 := Lib.hid hkw
            have HFI := Lib.hid hfi
            have HPL := Lib.hid hpl
            clear hm6 hk6 hkw hfi hpl fz
            by_cases hl : k + 1 = fi
            · have hbe : ((k : Int) == (fi : Int) - 1) = true := by simp; omega
              have hm7 := HM6.out.lasts L (by have := HS6.out; exact this)
              have hk7 := HK6.out.trans hm7.2
              have hkw7 : Kept (fun i => F i ∨ P i) w _ := HKW6.out.trans (hm7.2.mono (fun i hf => .inl (HA1.out i hf).1))
              have HM7 := Lib.hid hm7.1
              have HK7 := Lib.hid hk7
              have HKW7 := Lib.hid hkw7
              rw [if_pos hl] at HJ2
              clear hl hm7 hk7 hkw7
              go_wp2_with fail
              go_ret2
              rw [HJ2.out]
              refine ⟨rfl, ⟨v, ?_⟩, HKW7.out⟩
              refine Both.join C HA1.out HA2.out HA3.out HA4.out HI.out ?_ HK7.out (fun i hf => hf.1) (fun i hf => hf.1) HP7.out
              have := HM7.out
              rw [HFI.out] at this
              rw [HL.out]
              exact this
            · have hbe : ((k : Int) == (fi : Int) - 1) = false := by simp; omega
              rw [if_neg hl] at HJ2
              clear hl
              go_wp2_with fail
              go_ret2
              rw [HJ2.out]
              refine ⟨rfl, v, ?_, HKW6.out⟩
              refine Both.join C HA1.out HA2.out HA3.out HA4.out HI.out ?_ HK6.out (fun i hf => hf.1) (fun i hf => hf.1) HP7.out
              have := HM6.out
              rw [HFI.out] at this
              exact this
          · have HJ2 := Lib.hid ((HJ.out).trans (if_pos hz))
            have hz1 : ¬ (E : Int) = 0 := by omega
            clear hz HJ
            go_wp2_with fail
            go_ret2
            rw [HJ2.out]
            refine ⟨rfl, v, ?_, HKW.out⟩
            exact Both.join C HA1.out HA2.out HA3.out HA4.out HI.out HMD.out HKD.out (fun i hf => hf.1) (fun i hf => hf.1) HP7.out
end
end Go.Proofs.YtghnbkkfghfifaaGreatDoor
