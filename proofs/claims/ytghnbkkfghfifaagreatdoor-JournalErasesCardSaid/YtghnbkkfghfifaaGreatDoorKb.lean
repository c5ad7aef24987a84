/- JournalBatches. -/
import Derived.Test.YtghnbkkfghfifaaGreatDoorKa
namespace Go.Proofs.YtghnbkkfghfifaaGreatDoor
open Go.RowKit Go.Maps D
set_option linter.unusedVariables false
/-- A footprint that takes up what is new. -/
def grow (w : World) (F : Nat → Prop) (i : Nat) : Prop := (F i ∧ i < w.heap.size) ∨ w.heap.size ≤ i
def lim (w : World) (F : Nat → Prop) (i : Nat) : Prop := F i ∧ i < w.heap.size
theorem evs_mono {w : World} {B B' : Nat} {v : Value} {es : List Ev} (h : E.Evs w B v es) (hB : B ≤ B') : E.Evs w B' v es := by
  rcases h with h | ⟨ad, cap, hv, hc, hg, hh⟩
  · exact .inl h
  · exact .inr ⟨ad, cap, hv, hc, fun h0 => Nat.lt_of_lt_of_le (hg h0) hB, hh⟩
theorem grow_new {w : World} {F : Nat → Prop} : ∀ i, w.heap.size ≤ i → grow w F i := fun i hi => .inr hi
theorem grow_apart {w w' : World} {A B : Nat → Prop} (h : ∀ i, i < w.heap.size → A i → ¬ B i) : ∀ i, i < w'.heap.size → grow w A i → ¬ lim w B i := by
  rintro i _ (hi | hi) hb
  · exact h i hi.2 hi.1 hb.1
  · exact absurd hb.2 (by omega)
theorem lim_apart {w w' : World} {A B : Nat → Prop} (h : ∀ i, i < w.heap.size → A i → ¬ B i) : ∀ i, i < w'.heap.size → lim w A i → ¬ lim w B i := fun i _ ha hb => h i ha.2 ha.1 hb.1
section
variable {w w' : World} {F G : Nat → Prop} {d l : Nat} {n : List UInt8} {per : Nat} {v : Value} {j : Jn Ev}
theorem LogM.up (h : LogM w F d l n per v j) : LogM w (grow w F) d l n per v j :=
  h.mono (fun i hi hs => .inl ⟨hi, hs⟩) (fun i hi => by
    rcases hi with hi | hi
    · exact h.seven i hi.1
    · exact Nat.le_trans h.lay.sz hi)
theorem LogM.aside (h : LogM w F d l n per v j) (hk : Kept (grow w G) w w') (hd : ∀ i, i < w.heap.size → F i → ¬ G i) (h7 : ∀ i, G i → 7 ≤ i) : LogM w' (lim w F) d l n per v j :=
  (h.mono (G := lim w F) (fun i hi hs => ⟨hi, hs⟩) (fun i hi => h.seven i hi.1)).farF hk (fun i hi hs hg => by
    rcases hg with hg | hg
    · exact hd i hs hi.1 hg.1
    · omega) (fun i hg => by
    rcases hg with hg | hg
    · exact h7 i hg.1
    · exact Nat.le_trans h.lay.sz hg)
theorem DiskAt.aside {k : Dk} (h : DiskAt w F d k) (hk : Kept (grow w G) w w') (hd : ∀ i, i < w.heap.size → F i → ¬ G i) : DiskAt w' (lim w F) d k :=
  (h.mono (G := lim w F) (fun i hi hs => ⟨hi, hs⟩)).far hk (fun i hi hs hg => by
    rcases hg with hg | hg
    · exact hd i hs hi.1 hg.1
    · omega)
end
/-- Three journals, apart. -/
structure Tri (w0 w : World) (per : Nat) (A B C : Nat → Prop) (da la : Nat) (va : Value) (ja : Jn Ev) (db lb : Nat) (vb : Value) (jb : Jn Ev) (dc lc : Nat) (vc : Value) (jc : Jn Ev) : Prop where
  a : LogM w A da la jN per va ja
  b : LogM w B db lb jN per vb jb
  c : LogM w C dc lc jN per vc jc
  ab : ∀ i, i < w.heap.size → A i → ¬ B i
  ac : ∀ i, i < w.heap.size → A i → ¬ C i
  bc : ∀ i, i < w.heap.size → B i → ¬ C i
  lowA : ∀ i, A i → w0.heap.size ≤ i
  lowB : ∀ i, B i → w0.heap.size ≤ i
  lowC : ∀ i, C i → w0.heap.size ≤ i
  below : Below w0.heap.size w0 w
section
variable {w0 w w' : World} {per : Nat} {A B C : Nat → Prop} {da la : Nat} {va va' : Value} {ja ja' : Jn Ev} {db lb : Nat} {vb vb' : Value} {jb jb' : Jn Ev} {dc lc : Nat} {vc vc' : Value} {jc jc' : Jn Ev}
theorem grow_low (h : Below w0.heap.size w0 w) (hA : ∀ i, A i → w0.heap.size ≤ i) : ∀ i, grow w A i → w0.heap.size ≤ i := by
  rintro i (hi | hi)
  · exact hA i hi.1
  · exact Nat.le_trans h.size hi
theorem kept_low (h : Below w0.heap.size w0 w) (hA : ∀ i, A i → w0.heap.size ≤ i) (hk : Kept (grow w A) w w') : Below w0.heap.size w0 w' := h.trans (hk.below h.size (grow_low h hA))
theorem apart_sym {A B : Nat → Prop} (h : ∀ i, i < w.heap.size → A i → ¬ B i) : ∀ i, i < w.heap.size → B i → ¬ A i := fun i hi hb ha => h i hi ha hb
theorem Tri.turnA (h : Tri w0 w per A B C da la va ja db lb vb jb dc lc vc jc) (hm : LogM w' (grow w A) da la jN per va' ja') (hk : Kept (grow w A) w w') : Tri w0 w' per (grow w A) (lim w B) (lim w C) da la va' ja' db lb vb jb dc lc vc jc :=
  ⟨hm, h.b.aside hk (apart_sym h.ab) h.a.seven, h.c.aside hk (apart_sym h.ac) h.a.seven, grow_apart h.ab, grow_apart h.ac, lim_apart h.bc, grow_low h.below h.lowA, fun i hi => h.lowB i hi.1, fun i hi => h.lowC i hi.1, kept_low h.below h.lowA hk⟩
theorem Tri.turnB (h : Tri w0 w per A B C da la va ja db lb vb jb dc lc vc jc) (hm : LogM w' (grow w B) db lb jN per vb' jb') (hk : Kept (grow w B) w w') : Tri w0 w' per (lim w A) (grow w B) (lim w C) da la va ja db lb vb' jb' dc lc vc jc :=
  ⟨h.a.aside hk h.ab h.b.seven, hm, h.c.aside hk (apart_sym h.bc) h.b.seven, apart_sym (grow_apart (apart_sym h.ab)), lim_apart h.ac, grow_apart h.bc, fun i hi => h.lowA i hi.1, grow_low h.below h.lowB, fun i hi => h.lowC i hi.1, kept_low h.below h.lowB hk⟩
theorem Tri.turnC (h : Tri w0 w per A B C da la va ja db lb vb jb dc lc vc jc) (hm : LogM w' (grow w C) dc lc jN per vc' jc') (hk : Kept (grow w C) w w') : Tri w0 w' per (lim w A) (lim w B) (grow w C) da la va ja db lb vb jb dc lc vc' jc' :=
  ⟨h.a.aside hk h.ac h.c.seven, h.b.aside hk h.bc h.c.seven, hm, lim_apart h.ab, apart_sym (grow_apart (apart_sym h.ac)), apart_sym (grow_apart (apart_sym h.bc)), fun i hi => h.lowA i hi.1, fun i hi => h.lowB i hi.1, grow_low h.below h.lowC, kept_low h.below h.lowC hk⟩
theorem Tri.next (h : Tri w0 w per A B C da la va ja db lb vb jb dc lc vc jc) (hb : Below w.heap.size w w') : Tri w0 w' per (lim w A) (lim w B) (lim w C) da la va ja db lb vb jb dc lc vc jc := by
  have m : ∀ {F : Nat → Prop} {d l : Nat} {v : Value} {j : Jn Ev}, LogM w F d l jN per v j → LogM w' (lim w F) d l jN per v j := fun hm => (hm.mono (G := lim w _) (fun i hi hs => ⟨hi, hs⟩) (fun i hi => hm.seven i hi.1)).below hb
  exact ⟨m h.a, m h.b, m h.c, lim_apart h.ab, lim_apart h.ac, lim_apart h.bc, fun i hi => h.lowA i hi.1, fun i hi => h.lowB i hi.1, fun i hi => h.lowC i hi.1, h.below.trans (hb.mono h.below.size)⟩
end
theorem small_t {e : Ev} (h : E.Small e 300) : e.t.size ≤ 1000000000 := by
  unfold E.Small at h
  omega
/-- A journal that was never opened again, with these entries. -/
structure Fz (per : Nat) (j : Jn Ev) (ls : List Ev) : Prop where
  es : j.es = ls
  files : j.files = (ls.length + per - 1) / per
  lasts : j.lasts = auto ls.length per
theorem Fz.app {per : Nat} (hp : 1 ≤ per) {j j' : Jn Ev} {es xs : List Ev} (h : Fz per j es) (ha : AppR per j j' xs) : Fz per j' (es ++ xs) := by
  by_cases hx : xs = []
  · rw [ha.none hx, hx, List.append_nil]; exact h
  · have hl : 0 < xs.length := List.length_pos_iff.2 hx
    refine ⟨by rw [ha.es, h.es], ?_, ?_⟩
    · rw [ha.files hx, h.es, List.length_append, full_of hp (by omega)]
    · have := auto_mono (per := per) (show es.length ≤ es.length + xs.length by omega)
      rw [ha.lasts, if_neg hx, h.lasts, h.es, List.length_append]
      omega
theorem fz_new {per : Nat} (hp : 1 ≤ per) (k : Dk) : Fz per ⟨k, 0, [], 0, 0⟩ [] := ⟨rfl, by show 0 = (0 + per - 1) / per; rw [Nat.div_eq_of_lt (by omega)], rfl⟩
theorem evs_head {w : World} {B : Nat} {q : Option Addr} {n cap : Nat} {es : List Ev} (h : E.Evs w B (.slice q n cap) es) (K : Nat) (hK : K ≤ es.length) : n = es.length ∧ n ≤ cap ∧ E.Evs w B (.slice q K cap) (es.take K) := by
  rcases h with ⟨h0, h1⟩ | ⟨ad, cap', hv, hc, hg, hh⟩
  · cases h1
    subst h0
    have hK0 : K = 0 := by simpa using hK
    subst hK0
    exact ⟨rfl, Nat.le_refl _, .inl ⟨rfl, rfl⟩⟩
  · cases hv
    have hl : (es.take K).length = K := by rw [List.length_take]; omega
    refine ⟨rfl, hc, .inr ⟨ad, cap, by rw [hl], by omega, fun h0 => hg (by omega), fun j hj => ?_⟩⟩
    have := hh j (by omega)
    rw [List.getElem_take]
    exact this
theorem ev_add {w : World} {ad : Addr} {K j : Nat} {e : Ev} (h : E.EvIn w ad (K + j) e) : E.EvIn w (ad.add (K * 8)) j e := by
  refine ev_of fun m hm => ?_
  rw [← ev_cell h m hm]
  congr 1
  rw [Addr.add_add]
  congr 1
  omega
theorem evs_tail {w : World} {B : Nat} {q : Option Addr} {n cap : Nat} {es : List Ev} (h : E.Evs w B (.slice q n cap) es) (K : Nat) (hK : K ≤ es.length) : E.Evs w B (.slice (if cap = K then q else q.map (fun x => x.add (K * 8))) (n - K) (cap - K)) (es.drop K) := by
  rcases h with ⟨h0, h1⟩ | ⟨ad, cap', hv, hc, hg, hh⟩
  · cases h1
    subst h0
    have hK0 : K = 0 := by simpa using hK
    subst hK0
    exact .inl ⟨rfl, rfl⟩
  · cases hv
    have hl : (es.drop K).length = es.length - K := by rw [List.length_drop]
    by_cases hcK : cap = K
    · rw [if_pos hcK]
      exact .inr ⟨ad, cap - K, by rw [hl], by omega, fun h0 => by omega, fun j hj => by omega⟩
    · rw [if_neg hcK]
      refine .inr ⟨ad.add (K * 8), cap - K, by rw [hl]; rfl, by omega, fun h0 => by rw [add_block]; exact hg (by omega), fun j hj => ?_⟩
      have := hh (K + j) (by omega)
      rw [List.getElem_drop]
      exact ev_add this
theorem names_same {per : Nat} {j1 j2 : Jn Ev} {s1 s2 : Bool} (h1 : Up pay jN per j1 s1) (h2 : Up pay jN per j2 s2) (hf : j1.files = j2.files) : j2.dk.L.map Fl.name = j1.dk.L.map Fl.name := by
  refine names_of h2.lie.lies (List.pairwise_map.2 h1.lie.lies.sorted) ?_
  rw [← hf]
  refine (h1.lie.lies.perm.map Fl.name).trans (List.Perm.of_eq ?_)
  rw [List.map_map]
  exact List.map_congr_left fun i hi => h1.lie.lies.name i (List.mem_range.1 hi)
theorem read_up {per : Nat} {j : Jn Ev} {st : Bool} (h : Up pay jN per j st) {m : List UInt8} (hm : m ∈ j.dk.L.map Fl.name) : ∃ k, k < j.files ∧ m = fileN jN k ∧ find j.dk m = 0 ∧ readS j.dk m = byt pay (seg j.es per k) := by
  obtain ⟨f, hf, rfl⟩ := List.mem_map.1 hm
  obtain ⟨k, hk, rfl⟩ := h.lie.lies.inv hf
  have hfd := h.lie.found h.up hk
  refine ⟨k, hk, rfl, hfd, ?_⟩
  unfold readS
  show (if find j.dk (fileN jN k) ≠ 0 then [] else (old (fileN jN k) j.dk.L).s) = _
  rw [hfd, if_neg (by simp), h.lie.lies.old hk]
  rfl
section
variable {w0 w : World} {per : Nat} {A B C : Nat → Prop} {da la : Nat} {va : Value} {ja : Jn Ev} {db lb : Nat} {vb : Value} {jb : Jn Ev} {dc lc : Nat} {vc : Value} {jc : Jn Ev} {sc : Bool}
theorem Tri.appC (hp : 1 ≤ per) (h : Tri w0 w per A B C da la va ja db lb vb jb dc lc vc jc) (hu : Up pay jN per jc sc) {ls : List Ev} (hf : Fz per jc ls) (bv : Value) (xs : List Ev) (hv : E.Evs w0 w0.heap.size bv xs) (hmay : xs.all E.mayB = true) (hl : ls.length + xs.length ≤ 2000) :
    Calls Tryz.prog 30 #[.pointer (some ⟨lc, 0, none⟩), bv] w fun e w' => e = .returned (.tuple #[.int .i64 (ls.length : Int), .int .i64 0]) ∧ ∃ vc' jc' sc' A' B' C', Tri w0 w' per A' B' C' da la va ja db lb vb jb dc lc vc' jc' ∧ Up pay jN per jc' sc' ∧ Fz per jc' (ls ++ xs) := by
  have hap := app_up (F := grow w C) grow_new h.c.up hu bv xs (EvP.of (B := w0.heap.size) (hv.below h.below (Nat.le_refl _)) h.below.size (fun i hi hg => by have := grow_low h.below h.lowC i hg; omega)) hmay (by rw [hf.es]; exact hl)
  refine hap.mono ?_
  rintro e w' ⟨rfl, vc', jc', sc', hm, hk, hu', hr⟩
  rw [hf.es]
  exact ⟨rfl, vc', jc', sc', _, _, _, h.turnC hm hk, hu', hf.app hp hr⟩
end
section
variable {w : World}
set_option maxRecDepth 100000 in
set_option maxHeartbeats 4000000 in
set_option pp.maxSteps 100000 in
theorem law_batches (hL : E.Lay w) (p a : Int) (lv : Value) (es : List Ev) (hv : E.Evs w w.heap.size lv es) :
    Calls Tryz.prog 9 #[.int .i64 p, lv, .int .i64 a] w fun e w' => e = .returned (.bool true) ∧ Below w.heap.size w w' := by
  obtain ⟨q, cap, rfl⟩ := hv.shape
  obtain ⟨N, hN⟩ : ∃ N, es.length = N := ⟨_, rfl⟩
  obtain ⟨b1, hb1⟩ : ∃ b1, es.all (fun e => decide (E.Small e 300)) = b1 := ⟨_, rfl⟩
  obtain ⟨b2, hb2⟩ : ∃ b2, es.all E.mayB = b2 := ⟨_, rfl⟩
  have HV := Lib.hid hv
  have HLV := Lib.hid (lives_any w hL)
  have HS1 := Lib.hid (fun (w1 : World) (hb : Below w.heap.size w w1) (hle : es.length ≤ 1000000) => E.rsome_any (.slice q es.length cap) es 300 hle w1 (evs_mono (HV.out.below hb (Nat.le_refl _)) hb.size))
  have HS2 := Lib.hid (fun (w1 : World) (hb : Below w.heap.size w w1) (ht : es.all (fun e => decide (E.Small e 300)) = true) (hle : es.length ≤ 1000000) => E.rall_any (.slice q es.length cap) es (fun e he => small_t (of_decide_eq_true (List.all_eq_true.1 ht e he))) hle w1 (evs_mono (HV.out.below hb (Nat.le_refl _)) hb.size))
  rw [hb1] at HS1 HS2
  rw [hb2] at HS2
  rw [hN] at HS1 HS2 HV ⊢
  have HL := Lib.hid hL
  have HMAY := Lib.hid hb2
  have HNN := Lib.hid hN
  clear hv hL hb1 hb2 hN
  go_enter Tryz.func9, Tryz.ntmps9
  go_wp2_with fail
  refine (HLV.out).mono ?_
  rintro e w1 ⟨rfl, hbl⟩
  have HB1 := Lib.hid hbl
  clear hbl
  go_wp2_with (first | (go_at_call 38; refine (HS1.out _ HB1.out (by omega)).mono ?_; rintro e w2 ⟨rfl, hb2⟩; have HB2 := Lib.hid (HB1.out.trans (hb2.mono HB1.out.size)); clear hb2) | (go_at_call 34; refine (HS2.out _ HB2.out (by assumption) (by omega)).mono ?_; rintro e w3 ⟨rfl, hb3⟩; have HB3 := Lib.hid (HB2.out.trans (hb3.mono HB2.out.size)); clear hb3))
  all_goals (try (go_ret; exact ⟨rfl, by first | exact HB3.out | exact HB2.out | exact HB1.out⟩))
  have hp1 : 1 ≤ p := by assumption
  have hp2 : p ≤ 8 := by assumption
  have ha1 : 0 ≤ a := by assumption
  have ha2 : a ≤ (N : Int) := by assumption
  have hn40 : (N : Int) ≤ 40 := by assumption
  have hb2t : b2 = true := by assumption
  have hb1t : b1 = true := by assumption
  subst hb2t
  subst hb1t
  obtain ⟨P, rfl⟩ := Int.eq_ofNat_of_zero_le (show 0 ≤ p by omega)
  obtain ⟨K, rfl⟩ := Int.eq_ofNat_of_zero_le ha1
  obtain ⟨wz, hwz⟩ : ∃ wz : World, wz = w3 := ⟨_, rfl⟩
  have HN1 := Lib.hid (new_dk w3 (fun i => w3.heap.size ≤ i) (fun i hi => hi))
  refine (HN1.out).mono ?_
  rintro e w4 ⟨da, rfl, hda, hb4⟩
  have HN2 := Lib.hid (new_dk w4 (fun i => w4.heap.size ≤ i) (fun i hi => hi))
  have HDA := Lib.hid hda
  have HB4 := Lib.hid hb4
  clear hda hb4 HN1 HS1 HS2 HLV
  go_wp2_with fail
  refine (HN2.out).mono ?_
  rintro e w5 ⟨db, rfl, hdb, hb5⟩
  have HN3 := Lib.hid (new_dk w5 (fun i => w5.heap.size ≤ i) (fun i hi => hi))
  have HDB := Lib.hid hdb
  have HB5 := Lib.hid hb5
  clear hdb hb5 HN2
  go_wp2_with fail
  refine (HN3.out).mono ?_
  rintro e w6 ⟨dc, rfl, hdc, hb6⟩
  have z4 := HB4.out.size
  have z5 := HB5.out.size
  have z6 := hb6.size
  have z3 := HB3.out.size
  have z0 := HL.out.sz
  have HDA6 : Hid (DiskAt w6 (fun i => w3.heap.size ≤ i ∧ i < w4.heap.size) da newD) := Lib.hid (((HDA.out.mono (G := fun i => w3.heap.size ≤ i ∧ i < w4.heap.size) (fun i hi hs => ⟨hi, hs⟩)).below HB5.out).below hb6)
  have HDB6 : Hid (DiskAt w6 (fun i => w4.heap.size ≤ i ∧ i < w5.heap.size) db newD) := Lib.hid ((HDB.out.mono (G := fun i => w4.heap.size ≤ i ∧ i < w5.heap.size) (fun i hi hs => ⟨hi, hs⟩)).below hb6)
  have HDC6 : Hid (DiskAt w6 (fun i => w5.heap.size ≤ i ∧ i < w6.heap.size) dc newD) := Lib.hid (hdc.mono (G := fun i => w5.heap.size ≤ i ∧ i < w6.heap.size) (fun i hi hs => ⟨hi, hs⟩))
  have HB6 : Hid (Below w.heap.size w w6) := Lib.hid (((HB3.out.trans (HB4.out.mono z3)).trans (HB5.out.mono (by omega))).trans (hb6.mono (by omega)))
  have hAB : ∀ i, i < w6.heap.size → (w3.heap.size ≤ i ∧ i < w4.heap.size) → ¬ (w4.heap.size ≤ i ∧ i < w5.heap.size) := by intros; omega
  have hAC : ∀ i, i < w6.heap.size → (w3.heap.size ≤ i ∧ i < w4.heap.size) → ¬ (w5.heap.size ≤ i ∧ i < w6.heap.size) := by intros; omega
  have hBC : ∀ i, i < w6.heap.size → (w4.heap.size ≤ i ∧ i < w5.heap.size) → ¬ (w5.heap.size ≤ i ∧ i < w6.heap.size) := by intros; omega
  have lA : ∀ i, (w3.heap.size ≤ i ∧ i < w4.heap.size) → w.heap.size ≤ i := by intros; omega
  have lB : ∀ i, (w4.heap.size ≤ i ∧ i < w5.heap.size) → w.heap.size ≤ i := by intros; omega
  have lC : ∀ i, (w5.heap.size ≤ i ∧ i < w6.heap.size) → w.heap.size ≤ i := by intros; omega
  obtain ⟨A0, hA0⟩ : ∃ A0 : Nat → Prop, (fun i => w3.heap.size ≤ i ∧ i < w4.heap.size) = A0 := ⟨_, rfl⟩
  obtain ⟨B0, hB0⟩ : ∃ B0 : Nat → Prop, (fun i => w4.heap.size ≤ i ∧ i < w5.heap.size) = B0 := ⟨_, rfl⟩
  obtain ⟨C0, hC0⟩ : ∃ C0 : Nat → Prop, (fun i => w5.heap.size ≤ i ∧ i < w6.heap.size) = C0 := ⟨_, rfl⟩
  have HAP : Hid ((∀ i, i < w6.heap.size → A0 i → ¬ B0 i) ∧ (∀ i, i < w6.heap.size → A0 i → ¬ C0 i) ∧ (∀ i, i < w6.heap.size → B0 i → ¬ C0 i)) := Lib.hid (by rw [← hA0, ← hB0, ← hC0]; exact ⟨hAB, hAC, hBC⟩)
  have HLO : Hid ((∀ i, A0 i → w.heap.size ≤ i) ∧ (∀ i, B0 i → w.heap.size ≤ i) ∧ (∀ i, C0 i → w.heap.size ≤ i)) := Lib.hid (by rw [← hA0, ← hB0, ← hC0]; exact ⟨lA, lB, lC⟩)
  rw [hA0] at HDA6
  rw [hB0] at HDB6
  rw [hC0] at HDC6
  clear hA0 hB0 hC0 hAB hAC hBC lA lB lC hdc hb6 HN3 z4 z5 z6 z3 HDA HDB HB4 HB5 hwz
  have HP : Hid (1 ≤ P ∧ P ≤ 4096) := Lib.hid (by omega)
  have h7g : ∀ (w1 : World) (F : Nat → Prop), Below w.heap.size w w1 → (∀ i, F i → w.heap.size ≤ i) → ∀ i, grow w1 F i → 7 ≤ i := fun w1 F hb hF i hi => Nat.le_trans HL.out.sz (grow_low hb hF i hi)
  have H7 := Lib.hid h7g
  clear h7g
  have HO1 := Lib.hid (open_new (F := grow w6 A0) (n := jN) (per := P) grow_new (H7.out _ _ HB6.out HLO.out.1) (HL.out.next HB6.out) (HDA6.out.mono (fun i hi hs => .inl ⟨hi, hs⟩)) jN_name HP.out)
  go_wp2_with fail
  refine (HO1.out).mono ?_
  rintro e w7 ⟨la, va, ka, rfl, hm7, hk7, sa, hua⟩
  have HM7 := Lib.hid hm7
  have HUA := Lib.hid hua
  have HB7 : Hid (Below w.heap.size w w7) := Lib.hid (kept_low HB6.out HLO.out.1 hk7)
  have HDB7 := Lib.hid (DiskAt.aside HDB6.out hk7 (apart_sym HAP.out.1))
  have HDC7 := Lib.hid (DiskAt.aside HDC6.out hk7 (apart_sym HAP.out.2.1))
  have HO2 := Lib.hid (open_new (F := grow w7 (lim w6 B0)) (n := jN) (per := P) grow_new (H7.out _ _ HB7.out (fun i hi => HLO.out.2.1 i hi.1)) (HL.out.next HB7.out) (HDB7.out.mono (fun i hi hs => .inl ⟨hi, hs⟩)) jN_name HP.out)
  clear hm7 hk7 hua HO1
  go_wp2_with fail
  refine (HO2.out).mono ?_
  rintro e w8 ⟨lb, vb, kb, rfl, hm8, hk8, sb, hub⟩
  have HM8 := Lib.hid hm8
  have HUB := Lib.hid hub
  have HB8 : Hid (Below w.heap.size w w8) := Lib.hid (kept_low HB7.out (fun i hi => HLO.out.2.1 i hi.1) hk8)
  have HA8 := Lib.hid (LogM.aside HM7.out hk8 (grow_apart HAP.out.1) (fun i hi => Nat.le_trans HL.out.sz (HLO.out.2.1 i hi.1)))
  have HDC8 := Lib.hid (DiskAt.aside HDC7.out hk8 (apart_sym (lim_apart HAP.out.2.2)))
  have HO3 := Lib.hid (open_new (F := grow w8 (lim w7 (lim w6 C0))) (n := jN) (per := P) grow_new (H7.out _ _ HB8.out (fun i hi => HLO.out.2.2 i hi.1.1)) (HL.out.next HB8.out) (HDC8.out.mono (fun i hi hs => .inl ⟨hi, hs⟩)) jN_name HP.out)
  clear hm8 hk8 hub HO2
  go_wp2_with fail
  refine (HO3.out).mono ?_
  rintro e w9 ⟨lc, vc, kc, rfl, hm9, hk9, sc, huc⟩
  have HUC := Lib.hid huc
  have HB9 : Hid (Below w.heap.size w w9) := Lib.hid (kept_low HB8.out (fun i hi => HLO.out.2.2 i hi.1.1) hk9)
  have hac8 : ∀ i, i < w8.heap.size → lim w7 (grow w6 A0) i → ¬ lim w7 (lim w6 C0) i := lim_apart (grow_apart HAP.out.2.1)
  have hbc8 : ∀ i, i < w8.heap.size → grow w7 (lim w6 B0) i → ¬ lim w7 (lim w6 C0) i := grow_apart (lim_apart HAP.out.2.2)
  have hab8 : ∀ i, i < w8.heap.size → lim w7 (grow w6 A0) i → ¬ grow w7 (lim w6 B0) i := apart_sym (grow_apart (apart_sym (grow_apart HAP.out.1)))
  have h7c : ∀ i, lim w7 (lim w6 C0) i → 7 ≤ i := fun i hi => Nat.le_trans HL.out.sz (HLO.out.2.2 i hi.1.1)
  have HTRI : Hid (∃ A B C, Tri w w9 P A B C da la va ⟨ka, 0, [], 0, 0⟩ db lb vb ⟨kb, 0, [], 0, 0⟩ dc lc vc ⟨kc, 0, [], 0, 0⟩) := Lib.hid ⟨lim w8 (lim w7 (grow w6 A0)), lim w8 (grow w7 (lim w6 B0)), grow w8 (lim w7 (lim w6 C0)),
    LogM.aside HA8.out hk9 hac8 h7c, LogM.aside HM8.out hk9 hbc8 h7c, hm9, lim_apart hab8, apart_sym (grow_apart (apart_sym hac8)), apart_sym (grow_apart (apart_sym hbc8)),
    fun i hi => grow_low HB6.out HLO.out.1 i hi.1.1, fun i hi => grow_low HB7.out (fun i hi => HLO.out.2.1 i hi.1) i hi.1, grow_low HB8.out (fun i hi => HLO.out.2.2 i hi.1.1), HB9.out⟩
  clear hm9 hk9 huc HO3 hac8 hbc8 hab8 h7c HA8 HM8 HM7 HDA6 HDB6 HDC6 HDB7 HDC7 HDC8 HAP HLO H7 HB7 HB8 HB6
  obtain ⟨A, B, C, htri⟩ := HTRI.out
  have HT := Lib.hid htri
  clear htri HTRI
  have hN40 : N ≤ 40 := by omega
  have hPP : 1 ≤ P := HP.out.1
  have hap := app_up (F := grow w9 A) grow_new HT.out.a.up HUA.out (.slice q N cap) es (EvP.of (B := w.heap.size) (HV.out.below HB9.out (Nat.le_refl _)) HB9.out.size (fun i hi hg => by have := grow_low HB9.out HT.out.lowA i hg; omega)) HMAY.out (by rw [HNN.out]; show 0 + N ≤ 2000; omega)
  have HAP := Lib.hid hap
  clear hap
  go_wp2_with fail
  refine (HAP.out).mono ?_
  rintro e w10 ⟨rfl, va', ja, sa', hma, hka, hua, hra⟩
  have HT10 := Lib.hid (HT.out.turnA hma hka)
  have HUA10 := Lib.hid hua
  have hfa := Fz.app hPP (fz_new hPP ka) hra
  rw [List.nil_append] at hfa
  have HFA := Lib.hid hfa
  have HB10 := Lib.hid (HT10.out.below)
  clear hma hka hua hra hfa HAP HT HUA HB9
  go_wp2_with fail
  have HU0 := HUB
  go_loopw [16] (fun i wr => ∃ (k : Nat) (vb' : Value) (jb : Jn Ev) (sb' : Bool) (A' B' C' : Nat → Prop), k ≤ N ∧ i = .int .i64 k ∧ Hid (Tri w wr P A' B' C' da la va' ja db lb vb' jb dc lc vc ⟨kc, 0, [], 0, 0⟩) ∧ Hid (Up pay jN P jb sb') ∧ Hid (Fz P jb (es.take k))) (fun i _ => N - (intOf i).toNat)
  case atStart => exact ⟨0, vb, _, sb, _, _, _, by omega, rfl, HT10, HUB, Lib.hid (fz_new hPP kb)⟩
  case round =>
    obtain ⟨k, vb', jb, sb', A', B', C', hk, rfl, HTr, HUr, HFr⟩ := hrel
    have HBr := Lib.hid HTr.out.below
    have HVr := Lib.hid (HV.out.below HBr.out (Nat.le_refl _))
    by_cases hlt : k < N
    · obtain ⟨ad, hq, hab, hc⟩ := E.Evs.at (show E.Evs wr w.heap.size (.slice q es.length cap) es by rw [HNN.out]; exact HVr.out) k (by rw [HNN.out]; exact hlt)
      obtain ⟨c0, c1', c2', c3, c4, c5, c6, c7⟩ := hc
      obtain ⟨ev, hev⟩ : ∃ ev, es[k]'(by rw [HNN.out]; exact hlt) = ev := ⟨_, rfl⟩
      rw [hev] at c0 c1' c2' c3 c4 c5 c6 c7
      have htk : es.take k ++ [ev] = es.take (k + 1) := by rw [List.take_succ_eq_append_getElem (by rw [HNN.out]; exact hlt), hev]
      have hevm : [ev].all E.mayB = true := by
        have := List.all_eq_true.1 HMAY.out ev (by rw [← hev]; exact List.getElem_mem _)
        simp [this]
      have HTK := Lib.hid htk
      have HEM := Lib.hid hevm
      have hjl : jb.es.length = k := by rw [HFr.out.es, List.length_take, HNN.out]; omega
      have hbox : Blk (wr.alloc (.cells #[.string ev.s, .int .i64 ev.n, .int .i64 ev.a, .int .i64 ev.k, .string ev.p, .string ev.i, .int .i64 ev.v, .string ev.t] 52)) wr.heap.size (evsL [ev]) 52 := Blk.new wr (evL ev) 52
      have hT2 := HTr.out.next ((Below.refl wr.heap.size wr).alloc (Nat.le_refl _) (.cells #[.string ev.s, .int .i64 ev.n, .int .i64 ev.a, .int .i64 ev.k, .string ev.p, .string ev.i, .int .i64 ev.v, .string ev.t] 52))
      have hap := app_up grow_new hT2.b.up HUr.out (.slice (some ⟨wr.heap.size, 0, none⟩) 1 1) [ev] (EvP.box hbox (by
        rintro (h1 | h1)
        · have := h1.1.2; omega
        · rw [World.size_alloc] at h1; omega)) hevm (by rw [hjl]; simp; omega)
      rw [hjl] at hap
      have HT2 := Lib.hid hT2
      have HAP := Lib.hid hap
      obtain ⟨s1, n1, a1, k1, p1, i1, v1, t1⟩ := ev
      simp only at c0 c1' c2' c3 c4 c5 c6 c7 HAP
      subst hq
      clear hap hT2 hbox hevm htk hev
      go_wp2_with fail
      refine (HAP.out).mono ?_
      rintro e w' ⟨rfl, vb2, jb2, sb2, hm, hkk, hu, hr⟩
      have HT3 := Lib.hid (HT2.out.turnB hm hkk)
      have HU3 := Lib.hid hu
      have hf3 := Fz.app hPP HFr.out hr
      rw [HTK.out] at hf3
      have HF3 := Lib.hid hf3
      clear hm hkk hu hr hf3 HAP HT2 HTr HUr HFr HVr c0 c1' c2' c3 c4 c5 c6 c7
      go_wp2_with fail
      exact ⟨⟨k + 1, vb2, jb2, sb2, _, _, _, by omega, by go_num, HT3, HU3, HF3⟩, by simp [intOf]; omega⟩
    · obtain rfl : k = N := by omega
      have hfb := HFr.out
      rw [List.take_of_length_le (by rw [HNN.out]; exact Nat.le_refl _)] at hfb
      have HFB := Lib.hid hfb
      clear hfb HFr HT10
      have hKN : K ≤ k := by omega
      obtain ⟨hkl, hkc, hvh⟩ := evs_head HV.out K (by rw [HNN.out]; exact hKN)
      clear hkl
      have hvt := evs_tail HV.out K (by rw [HNN.out]; exact hKN)
      have hKc : K ≤ cap := by omega
      have hKc' : (K : Int) ≤ (cap : Int) := by omega
      have hm1 : (es.take K).all E.mayB = true := by rw [List.all_eq_true]; exact fun x hx => List.all_eq_true.1 HMAY.out x (List.mem_of_mem_take hx)
      have hm2 : (es.drop K).all E.mayB = true := by rw [List.all_eq_true]; exact fun x hx => List.all_eq_true.1 HMAY.out x (List.mem_of_mem_drop hx)
      have HVT := Lib.hid hvt
      have HM2 := Lib.hid hm2
      have HC1 := Lib.hid (Tri.appC hPP HTr.out HUC.out (fz_new hPP kc) (.slice q K cap) (es.take K) hvh hm1 (by have := HNN.out; rw [List.length_take]; show 0 + _ ≤ 2000; omega))
      clear hvt hvh hm1 hm2 HTr
      go_wp2_with fail
      refine (HC1.out).mono ?_
      rintro e w11 ⟨rfl, vc1, jc1, sc1, A1, B1, C1, ht11, hu11, hf11⟩
      rw [List.nil_append] at hf11
      have HC2 := Lib.hid (Tri.appC hPP ht11 hu11 hf11 (.slice none 0 0) [] (.inl ⟨rfl, rfl⟩) rfl (by have := HNN.out; rw [List.length_take]; simp only [List.length_nil]; omega))
      clear ht11 hu11 hf11 HC1
      go_wp2_with fail
      refine (HC2.out).mono ?_
      rintro e w12 ⟨rfl, vc2, jc2, sc2, A2, B2, C2, ht12, hu12, hf12⟩
      rw [List.append_nil] at hf12
      have HC3 := Lib.hid (Tri.appC hPP ht12 hu12 hf12 _ (es.drop K) HVT.out HM2.out (by have := HNN.out; rw [List.length_take, List.length_drop]; omega))
      clear ht12 hu12 hf12 HC2 HVT
      have HQ : Hid (∃ wq : Nat, wq = 0) := Lib.hid ⟨0, rfl⟩
      go_wp2_with fail
      all_goals
        have hc3 := HC3.out
        first | rw [if_pos (show cap = K by assumption), show cap - K = 0 from by omega] at hc3 | rw [if_neg (show ¬ cap = K by assumption)] at hc3
        refine hc3.mono ?_
        rintro e w13 ⟨rfl, vc3, jc3, sc3, A3, B3, C3, ht13, hu13, hf13⟩
        rw [List.take_append_drop] at hf13
        have HT13 := Lib.hid ht13
        have HU13 := Lib.hid hu13
        have HF13 := Lib.hid hf13
        have hnb := names_same HUA10.out HUr.out (by rw [HFA.out.files, HFB.out.files])
        have hnc := names_same HUA10.out hu13 (by rw [HFA.out.files, hf13.files])
        obtain ⟨ls, hls⟩ : ∃ ls, ja.dk.L.map Fl.name = ls := ⟨_, rfl⟩
        rw [hls] at hnb hnc
        obtain ⟨M, hM⟩ : ∃ M, ls.length = M := ⟨_, rfl⟩
        have hMa : ja.dk.L.length = M := by rw [← hM, ← hls, List.length_map]
        have hMb : jb.dk.L.length = M := by rw [← hM, ← hnb, List.length_map]
        have hMc : jc3.dk.L.length = M := by rw [← hM, ← hnc, List.length_map]
        have hM4 : M ≤ 4096 := by rw [← hMa]; exact ht13.a.disk.ok.len
        have hna := names_dk ht13.a.disk
        rw [hls, hMa] at hna
        have HNA := Lib.hid hna
        have HNB := Lib.hid hnb
        have HNC := Lib.hid hnc
        have HLS := Lib.hid hls
        have HMB := Lib.hid hMb
        have HMC := Lib.hid hMc
        have HML := Lib.hid hM
        clear hc3 ht13 hu13 hf13 hnb hnc hls hM hMa hMb hMc hna HC3
        go_wp2_with fail
        refine (HNA.out).mono ?_
        rintro e w14 ⟨q14, cap14, rfl, ht14, _, hb14⟩
        have HTX := Lib.hid ht14
        have HST := Lib.hid (strs_of ht14)
        have HT14 := Lib.hid (HT13.out.next hb14)
        clear ht14 hb14 HNA HT13
        go_wp2_with fail
        have hnb := names_dk HT14.out.b.disk
        rw [HNB.out, HMB.out] at hnb
        have HNB2 := Lib.hid hnb
        clear hnb
        refine (HNB2.out).mono ?_
        rintro e w15 ⟨q15, cap15, rfl, ht15, _, hb15⟩
        have HT15 := Lib.hid (HT14.out.next hb15)
        have HTX15 := Lib.hid (HTX.out.below hb15 (Nat.le_refl _))
        have hst15 := HST.out.below hb15
        have HX1 := Lib.hid (E.texts_same _ _ _ (by rw [List.length_map, HML.out]; omega) w15 (strs_of ht15) hst15)
        have HST15 := Lib.hid hst15
        clear ht15 hb15 hst15 HNB2 HTX HST HT14
        go_wp2_with fail
        refine (HX1.out).mono ?_
        rintro e w16 ⟨rfl, m16, hw16⟩
        have hb16 : Below w15.heap.size w15 w16 := by rw [hw16]; exact E.below_drewN (Below.refl _ _) m16
        have HT16 := Lib.hid (HT15.out.next hb16)
        have HTX16 := Lib.hid (HTX15.out.below hb16 (Nat.le_refl _))
        have HST16 := Lib.hid (HST15.out.below hb16)
        clear hw16 hb16 HX1 HTX15 HST15 HT15
        have hnb := names_dk HT16.out.c.disk
        rw [HNC.out, HMC.out] at hnb
        have HNB2 := Lib.hid hnb
        clear hnb
        go_wp2_with fail
        refine (HNB2.out).mono ?_
        rintro e w17 ⟨q17, cap17, rfl, ht17, _, hb17⟩
        have HT17 := Lib.hid (HT16.out.next hb17)
        have HTX17 := Lib.hid (HTX16.out.below hb17 (Nat.le_refl _))
        have HX2 := Lib.hid (E.texts_same _ _ _ (by rw [List.length_map, HML.out]; omega) w17 (strs_of ht17) (HST16.out.below hb17))
        clear ht17 hb17 HNB2 HTX16 HST16 HT16
        go_wp2_with fail
        refine (HX2.out).mono ?_
        rintro e w18 ⟨rfl, m18, hw18⟩
        have hb18 : Below w17.heap.size w17 w18 := by rw [hw18]; exact E.below_drewN (Below.refl _ _) m18
        have HT18 := Lib.hid (HT17.out.next hb18)
        have HTX18 := Lib.hid (HTX17.out.below hb18 (Nat.le_refl _))
        clear hw18 hb18 HX2 HTX17 HT17
        obtain ⟨T0, hT0⟩ : ∃ T0, auto es.length P = T0 := ⟨_, rfl⟩
        have HLA := Lib.hid (lasting_any HT18.out.a)
        have HLB := Lib.hid (lasting_any HT18.out.b)
        have HLC := Lib.hid (lasting_any HT18.out.c)
        have HLE := Lib.hid (len_any HT18.out.c)
        rw [HFA.out.lasts, hT0] at HLA
        rw [HFB.out.lasts, hT0] at HLB
        rw [HF13.out.lasts, hT0] at HLC
        rw [HF13.out.es, HNN.out] at HLE
        clear hT0
        go_wp2_with (first | (go_at_call 35; first | (with_reducible refine (HLA.out).mono ?_; rintro e w' ⟨rfl, hw'⟩; subst w') | (with_reducible refine (HLB.out).mono ?_; rintro e w' ⟨rfl, hw'⟩; subst w') | (with_reducible refine (HLC.out).mono ?_; rintro e w' ⟨rfl, hw'⟩; subst w')) | (go_at_call 31; refine (HLE.out).mono ?_; rintro e w' ⟨rfl, hw'⟩; subst w'))
      all_goals
        clear HLA HLB HLC HLE
        go_loopw [20] (fun i wr => ∃ (m : Nat) (A9 B9 C9 : Nat → Prop), m ≤ M ∧ i = .int .i64 m ∧ Hid (Tri w wr P A9 B9 C9 da la va' ja db lb vb' jb dc lc vc3 jc3) ∧ Hid (Txts wr w13.heap.size (.slice q14 M cap14) ls)) (fun i _ => M - (intOf i).toNat)
        case atStart => exact ⟨0, _, _, _, by omega, rfl, HT18, HTX18⟩
        case round =>
          obtain ⟨m, A9, B9, C9, hm, rfl, HTm, HTXm⟩ := hrel
          by_cases hmlt : m < M
          · obtain ⟨g, hq, hcell⟩ := HTXm.out.at m (by rw [HML.out]; exact hmlt)
            cases hq
            obtain ⟨nm, hnm⟩ : ∃ nm, ls[m]'(by rw [HML.out]; exact hmlt) = nm := ⟨_, rfl⟩
            rw [hnm] at hcell
            have hmem : nm ∈ ls := by rw [← hnm]; exact List.getElem_mem _
            obtain ⟨f1, g1, e1, r1, s1⟩ := read_up HUA10.out (m := nm) (by rw [HLS.out]; exact hmem)
            obtain ⟨f2, g2, e2, r2, s2⟩ := read_up HUr.out (m := nm) (by rw [HNB.out]; exact hmem)
            obtain ⟨f3, g3, e3, r3, s3⟩ := read_up HU13.out (m := nm) (by rw [HNC.out]; exact hmem)
            have hf12 : f2 = f1 := fileN_inj (e2.symm.trans e1)
            have hf13 : f3 = f1 := fileN_inj (e3.symm.trans e1)
            rw [hf12, HFB.out.es] at s2
            rw [hf13, HF13.out.es] at s3
            rw [HFA.out.es] at s1
            have hnl : nm.length ≤ 1000000 := by
              rw [e1]
              exact fileN_short (by decide) (by have := HTm.out.a.small.2.1; omega)
            obtain ⟨bb, hbb⟩ : ∃ bb, byt pay (seg es P f1) = bb := ⟨_, rfl⟩
            rw [hbb] at s1 s2 s3
            have hr1 := D.read_any HTm.out.a.disk nm hnl
            rw [r1, s1] at hr1
            have HR1 := Lib.hid hr1
            have HR2 := Lib.hid (And.intro r2 s2)
            have HR3 := Lib.hid (And.intro r3 s3)
            have HNL := Lib.hid hnl
            have hgl : g < wr.heap.size := lt_of_cell hcell
            clear hr1 r1 r2 r3 s1 s2 s3 e1 e2 e3 g1 g2 g3 hf12 hf13 hbb hnl hmem hnm
            go_wp2_with fail
            refine (HR1.out).mono ?_
            rintro e w19 ⟨u1, rfl, ho1, _, hb19⟩
            have HT19 := Lib.hid (HTm.out.next hb19)
            have HX19 := Lib.hid (HTXm.out.below hb19 (Nat.le_refl _))
            have HO1 := Lib.hid (Seen.own ho1)
            have hc19 : w19.cell? ⟨g, m, none⟩ = some (.string (bs nm)) := by rw [hb19.cell (p := ⟨g, m, none⟩) hgl]; exact hcell
            have hgl19 : g < w19.heap.size := lt_of_cell hc19
            have hr2 := D.read_any HT19.out.b.disk nm HNL.out
            rw [HR2.out.1, HR2.out.2] at hr2
            have HRB := Lib.hid hr2
            clear hr2 hb19 ho1 hcell hgl HTm HTXm HR1
            go_wp2_with fail
            refine (HRB.out).mono ?_
            rintro e w20 ⟨u2, rfl, ho2, _, hb20⟩
            have HT20 := Lib.hid (HT19.out.next hb20)
            have HX20 := Lib.hid (HX19.out.below hb20 (Nat.le_refl _))
            have HO1' := Lib.hid ((HO1.out.below hb20 (Nat.le_refl _)).mono hb20.size)
            have HO2 := Lib.hid (Seen.own ho2)
            have hc20 : w20.cell? ⟨g, m, none⟩ = some (.string (bs nm)) := by rw [hb20.cell (p := ⟨g, m, none⟩) hgl19]; exact hc19
            have hgl20 : g < w20.heap.size := lt_of_cell hc20
            have hr3 := D.read_any HT20.out.c.disk nm HNL.out
            rw [HR3.out.1, HR3.out.2] at hr3
            have HRC := Lib.hid hr3
            clear hr3 hb20 ho2 hc19 hgl19 HT19 HX19 HO1 HRB
            go_wp2_with fail
            refine (HRC.out).mono ?_
            rintro e w21 ⟨u3, rfl, ho3, _, hb21⟩
            have HT21 := Lib.hid (HT20.out.next hb21)
            have HX21 := Lib.hid (HX20.out.below hb21 (Nat.le_refl _))
            have t1 := (HO1'.out.below hb21 (Nat.le_refl _)).text
            have t2 := (HO2.out.below hb21 (Nat.le_refl _)).text
            have t3 := (Seen.own ho3).text
            clear hb21 ho3 hc20 hgl20 HT20 HX20 HO1' HO2 HRC
            go_wp2_with fail
            exact ⟨⟨m + 1, _, _, _, by omega, by go_num, HT21, HX21⟩, by simp [intOf]; omega⟩
          · obtain rfl : m = M := by omega
            have HBE := Lib.hid HTm.out.below
            go_wp2_with fail
            go_ret
            exact ⟨rfl, HBE.out⟩
end
end Go.Proofs.YtghnbkkfghfifaaGreatDoor
