/- Rows of events of which some are turned. -/
import Derived.Test.YtghnbkkfghfifaaGreatDoorJj
namespace Go.Proofs.YtghnbkkfghfifaaGreatDoor
open Go.RowKit Go.Maps D
open F (frameL frameL_len)
set_option linter.unusedVariables false
theorem own_set1 {w : World} {base : Nat} {e : TypeId} {size g n cap : Nat} {xs : List Value} (h : w.ownsRow base e size (.slice (some ⟨g, 0, none⟩) n cap) n xs) (j : Nat) (u : Value) : (w.setCell ⟨g, j, none⟩ u).ownsRow base e size (.slice (some ⟨g, 0, none⟩) n cap) n (xs.set j u) := (World.ownsRow.stored h j u).1
theorem set_splice : ∀ (vs : List Value) (o : Nat) (xs : List Value), o + vs.length ≤ xs.length → (xs.take o ++ vs ++ xs.drop (o + vs.length)).length = xs.length := fun vs o xs h => by simp; omega
theorem own_sets {base : Nat} {e : TypeId} {size g n cap : Nat} : ∀ (vs : List Value) (o : Nat) (w : World) (xs : List Value), w.ownsRow base e size (.slice (some ⟨g, 0, none⟩) n cap) n xs → o + vs.length ≤ xs.length → (w.setCells g o vs).ownsRow base e size (.slice (some ⟨g, 0, none⟩) n cap) n (xs.take o ++ vs ++ xs.drop (o + vs.length))
  | [], o, w, xs, h, hl => by
    have e : xs.take o ++ [] ++ xs.drop (o + ([] : List Value).length) = xs := by simp
    rw [e]; exact h
  | u :: vs, o, w, xs, h, hl => by
    have h1 := own_set1 h o u
    have hlen : (xs.set o u).length = xs.length := List.length_set
    simp only [List.length_cons] at hl
    have h2 := own_sets vs (o + 1) _ _ h1 (by rw [hlen]; omega)
    have ho : o < xs.length := by omega
    have e : (xs.set o u).take (o + 1) ++ vs ++ (xs.set o u).drop (o + 1 + vs.length) = xs.take o ++ u :: vs ++ xs.drop (o + (u :: vs).length) := by
      rw [List.set_eq_take_append_cons_drop, if_pos ho]
      have hT : (xs.take o).length = o := by rw [List.length_take]; omega
      rw [List.take_append, List.drop_append, hT]
      simp only [show o + 1 - o = 1 by omega, show o + 1 + vs.length - o = 1 + vs.length by omega, List.take_succ_cons, List.take_zero]
      rw [List.take_of_length_le (by omega), List.drop_of_length_le (l := xs.take o) (by omega)]
      rw [show 1 + vs.length = vs.length + 1 by omega, List.drop_succ_cons, List.drop_drop]
      simp only [List.length_cons, List.nil_append, List.append_assoc, List.cons_append]
      congr 3
      congr 1
      omega
    rw [e] at h2
    exact h2
theorem evsL_take : ∀ (es : List Ev) (i : Nat), evsL (es.take i) = (evsL es).take (i * 8)
  | [], i => by simp [evsL]
  | e :: es, 0 => by simp [evsL]
  | e :: es, i + 1 => by
    have h8 : (evL e).length = 8 := rfl
    rw [List.take_succ_cons, evsL_cons, evsL_cons, evsL_take es i, List.take_append, h8, show (i + 1) * 8 - 8 = i * 8 by omega, List.take_of_length_le (l := evL e) (by omega)]
theorem evsL_drop : ∀ (es : List Ev) (i : Nat), evsL (es.drop i) = (evsL es).drop (i * 8)
  | [], i => by simp [evsL]
  | e :: es, 0 => by simp
  | e :: es, i + 1 => by
    have h8 : (evL e).length = 8 := rfl
    rw [List.drop_succ_cons, evsL_cons, evsL_drop es i, List.drop_append, h8, show (i + 1) * 8 - 8 = i * 8 by omega, List.drop_of_length_le (l := evL e) (by omega)]
    simp
/-- Events of which some are others. -/
theorem ev_sets {w : World} {base g n cap : Nat} {es bs : List Ev} (hn : n = es.length) (h : EvRow w base (.slice (some ⟨g, 0, none⟩) n cap) es) (o : Nat) (ho : o + bs.length ≤ es.length) : EvRow (w.setCells g (o * 8) (evsL bs)) base (.slice (some ⟨g, 0, none⟩) n cap) (es.take o ++ bs ++ es.drop (o + bs.length)) := by
  subst hn
  have hl : (es.take o ++ bs ++ es.drop (o + bs.length)).length = es.length := by simp; omega
  unfold EvRow
  rw [hl, evsL_app, evsL_app, evsL_take, evsL_drop]
  have := own_sets (g := g) (evsL bs) (o * 8) w (evsL es) h (by rw [evsL_len, evsL_len]; omega)
  rw [evsL_len] at this
  rw [show (o + bs.length) * 8 = o * 8 + bs.length * 8 by omega]
  exact this
theorem grown_setCells (g : Nat) : ∀ (vs : List Value) (o : Nat) (w : World), w.grownBy (w.setCells g o vs) (some g)
  | [], o, w => grown_refl w _
  | u :: vs, o, w => (grownBy_set w ⟨g, o, none⟩ u).trans (grown_setCells g vs (o + 1) _)
/-- 'copy' of elements of several cells. -/
theorem run_copy_k {P : Program} (w : World) (dT sT ty elem : TypeId) (b o dLen dCap : Nat) (sp : Option Addr) (sLen sCap k : Nat) (cs : List Value)
    (hu : P.underlying dT = some (.slice elem)) (hs : (P.info? elem).map (·.size) = some k) (hn : cs.length = Nat.min sLen dLen * k)
    (hsrc : 0 < cs.length → ∃ a, sp = some a ∧ ∀ j v, cs[j]? = some v → w.cell? (a.add j) = some v) (hc : ∀ j, j < cs.length → (w.cell? ⟨b, o + j, none⟩).isSome = true) (hf : ∀ j, j < cs.length → w.frozen? ⟨b, o + j, none⟩ = false) (h1 : ∀ v ∈ cs, v.oneCell' = true) :
    (Builtin.copy_ #[dT, sT] ty #[.slice (some ⟨b, o, none⟩) dLen dCap, .slice sp sLen sCap]).run P w = .ok (goInt (Nat.min sLen dLen)) (w.setCells b o cs) := by
  have hst := run_storeCells_cells (P := P) b o cs 0 w (by simpa using hc) (by simpa using hf) h1
  cases hq : P.info? elem with
  | none => simp [hq] at hs
  | some i =>
    have hi : i.size = k := by simpa [hq] using hs
    by_cases h0 : 0 < cs.length
    · obtain ⟨a, rfl, ha⟩ := hsrc h0
      have hl := run_loadCells_list (P := P) w a cs ha
      rw [hn] at hl
      simp [Builtin.copy_, run_underlying hu, Builtin.lenOf, Builtin.firstCells, sizeOf, typeInfo, hq, hi, hl, hst]
    · obtain rfl : cs = [] := List.eq_nil_of_length_eq_zero (by omega)
      have hn0 : Nat.min sLen dLen * k = 0 := by simpa using hn.symm
      have hl : ∀ (x : Addr), (loadCells x 0).run P w = .ok #[] w := fun x => by simpa using run_loadCells_list (P := P) w x [] (by simp)
      cases sp <;> simp [Builtin.copy_, run_underlying hu, Builtin.lenOf, Builtin.firstCells, sizeOf, typeInfo, hq, hi, hn0, storeCells, hl, World.setCells]
theorem size52 : (Tryz.prog.info? 52).map (·.size) = some 8 := by kernel_rfl
/-- A copy of events into a row of one's own. -/
theorem copy_evs {w : World} {base g n cap o : Nat} {es bs : List Ev} (hn : n = es.length) (h : EvRow w base (.slice (some ⟨g, 0, none⟩) n cap) es) (ho : o + bs.length ≤ es.length) (dLen dCap : Nat) (hd : dLen = bs.length) (sp : Option Addr) (sCap B : Nat) (hs : E.Evs w B (.slice sp bs.length sCap) bs) :
    (Builtin.copy_ #[62, 62] 3 #[.slice (some ⟨g, o * 8, none⟩) dLen dCap, .slice sp bs.length sCap]).run Tryz.prog w = .ok (goInt bs.length) (w.setCells g (o * 8) (evsL bs)) := by
  subst hn hd
  obtain ⟨h1, h2⟩ := h
  rcases h2 with ⟨h2, _⟩ | ⟨g', cap', cur, hv, _, hh, _, _, hc, ht⟩
  · cases h2
  · cases hv
    have hlen : o * 8 + (evsL bs).length ≤ cur.size := by
      have := congrArg List.length ht
      rw [List.length_take, evsL_len] at this
      rw [evsL_len]
      simp only [Array.length_toList] at this
      omega
    have := run_copy_k (P := Tryz.prog) w 62 62 3 52 g (o * 8) bs.length dCap sp bs.length sCap 8 (evsL bs) Tryz.underlying62 size52 (by rw [evsL_len]; simp) (fun h0 => ?_) (fun j hj => ?_) (fun j hj => ?_) (evsL_one bs)
    · simpa using this
    · rcases hs with ⟨h3, _⟩ | ⟨ad, c2, hvv, r⟩
      · rw [h3] at h0; simp [evsL] at h0
      · have hs' : E.Evs w B (.slice (some ad) bs.length c2) bs := .inr ⟨ad, c2, rfl, r⟩
        injection hvv with e1 e2 e3
        exact ⟨ad, e1, evs_cells hs'⟩
    · have : o * 8 + j < cur.size := by omega
      simp [World.cell?, hh, this]
    · simp [World.frozen?, hh]
end Go.Proofs.YtghnbkkfghfifaaGreatDoor
