/- The program's Sort of events. -/
import Derived.Test.YthfhfekneahonaaDoorSf
import Derived.OwnWalk
import Derived.Laws.CopyOwn
namespace Go.Proofs.YthfhfekneahonaaDoor
open Go.RowKit
set_option linter.unusedVariables false
theorem info24 : (Tryd.prog.info? 24).map (fun i => (i.zero, i.size, i.bytes)) = some (some (.agg #[.string ⟨#[]⟩, .int .i64 0, .int .i64 0, .int .i64 0, .string ⟨#[]⟩, .string ⟨#[]⟩, .int .i64 0, .string ⟨#[]⟩]), 8, 96) := by kernel_rfl
/-- The cells of events, one behind the other. -/
def evsL (es : List Ev) : List Value := es.flatMap evL
theorem evsL_cons (e : Ev) (es : List Ev) : evsL (e :: es) = evL e ++ evsL es := by unfold evsL; rw [List.flatMap_cons]
theorem evsL_app (a b : List Ev) : evsL (a ++ b) = evsL a ++ evsL b := by unfold evsL; rw [List.flatMap_append]
theorem evsL_len : ∀ es : List Ev, (evsL es).length = es.length * 8
  | [] => rfl
  | e :: es => by
    have h8 : (evL e).length = 8 := rfl
    rw [evsL_cons, List.length_append, evsL_len es, h8, List.length_cons]; omega
theorem evsL_get : ∀ (es : List Ev) (i m : Nat) (hi : i < es.length), m < 8 → (evsL es)[i * 8 + m]? = (evL es[i])[m]?
  | e :: es, 0, m, hi, hm => by
    have h8 : (evL e).length = 8 := rfl
    rw [evsL_cons, List.getElem?_append_left (by omega)]; simp
  | e :: es, i + 1, m, hi, hm => by
    have h8 : (evL e).length = 8 := rfl
    rw [evsL_cons, List.getElem?_append_right (by omega), h8, show (i + 1) * 8 + m - 8 = i * 8 + m by omega]
    exact evsL_get es i m (by simpa using hi) hm
theorem evL_one (e : Ev) : ∀ v ∈ evL e, v.oneCell' = true := by
  intro v hv
  simp only [evL, List.mem_cons, List.not_mem_nil, or_false] at hv
  rcases hv with rfl | rfl | rfl | rfl | rfl | rfl | rfl | rfl <;> rfl
theorem evsL_one (es : List Ev) : ∀ v ∈ evsL es, v.oneCell' = true := by
  intro v hv
  unfold evsL at hv
  obtain ⟨e, _, he⟩ := List.mem_flatMap.1 hv
  exact evL_one e v he
theorem add_off (a : Addr) (n : Nat) : (a.add n).off = a.off + n := by unfold Addr.add; split <;> simp_all
theorem add_pos (ad : Addr) (j m : Nat) (hm : 0 < m) : (⟨(ad.add j).block, (ad.add j).off + m, none⟩ : Addr) = ad.add (j + m) := by
  rw [add_block, add_off]
  unfold Addr.add
  rw [if_neg (by omega)]
  simp
theorem EvIn.cell {w : World} {ad : Addr} {j : Nat} {e : Ev} (h : EvIn w ad j e) (m : Nat) (hm : m < 8) : w.cell? (ad.add (j * 8 + m)) = (evL e)[m]? := by
  obtain ⟨c0, c1, c2, c3, c4, c5, c6, c7⟩ := h
  rw [add_pos _ _ _ (by decide)] at c1 c2 c3 c4 c5 c6 c7
  match m, hm with
  | 0, _ => exact c0
  | 1, _ => exact c1
  | 2, _ => exact c2
  | 3, _ => exact c3
  | 4, _ => exact c4
  | 5, _ => exact c5
  | 6, _ => exact c6
  | 7, _ => exact c7
theorem EvIn.of {w : World} {ad : Addr} {j : Nat} {e : Ev} (h : ∀ m, m < 8 → w.cell? (ad.add (j * 8 + m)) = (evL e)[m]?) : EvIn w ad j e := by
  unfold EvIn
  rw [add_pos _ _ _ (by decide), add_pos _ _ _ (by decide), add_pos _ _ _ (by decide), add_pos _ _ _ (by decide), add_pos _ _ _ (by decide), add_pos _ _ _ (by decide), add_pos _ _ _ (by decide)]
  exact ⟨h 0 (by decide), h 1 (by decide), h 2 (by decide), h 3 (by decide), h 4 (by decide), h 5 (by decide), h 6 (by decide), h 7 (by decide)⟩
theorem evs_place {es : List Ev} {j : Nat} {u : Value} (h : (evsL es)[j]? = some u) : j / 8 < es.length ∧ j = j / 8 * 8 + j % 8 ∧ j % 8 < 8 := by
  have hj := (List.getElem?_eq_some_iff.1 h).1
  rw [evsL_len] at hj
  omega
theorem Evs.cells {w : World} {B : Nat} {ad : Addr} {n cap : Nat} {es : List Ev} (h : Evs w B (.slice (some ad) n cap) es) : ∀ (j : Nat) u, (evsL es)[j]? = some u → w.cell? (ad.add j) = some u := by
  intro j u hu
  obtain ⟨h1, h2, h3⟩ := evs_place hu
  rcases h with ⟨_, h⟩ | ⟨ad', cap', hv, hc, hg, hh⟩
  · cases h
  · injection hv with e1 e2 e3
    injection e1 with e1
    subst e1
    rw [h2] at hu ⊢
    rw [(hh (j / 8) h1).cell (j % 8) h3, ← evsL_get es (j / 8) (j % 8) h1 h3]
    exact hu
theorem Evs.of {w : World} {B : Nat} {ad : Addr} {cap : Nat} {es : List Ev} (hc : es.length ≤ cap) (hB : 0 < es.length → ad.block < B) (h : ∀ (j : Nat) u, (evsL es)[j]? = some u → w.cell? (ad.add j) = some u) : Evs w B (.slice (some ad) es.length cap) es := by
  refine .inr ⟨ad, cap, rfl, hc, hB, fun j hj => EvIn.of fun m hm => ?_⟩
  have e := evsL_get es j m hj hm
  have h8 : (evL es[j]).length = 8 := rfl
  rw [List.getElem?_eq_getElem (show m < (evL es[j]).length by omega)] at e ⊢
  exact h _ _ e
/-- 'copy' of elements of several cells. -/
theorem run_copy_k {P : Program} (w : World) (dT sT ty elem : TypeId) (b o dLen dCap : Nat) (sp : Option Addr) (sLen sCap k : Nat) (cs : List Value)
    (hu : P.underlying dT = some (.slice elem)) (hs : (P.info? elem).map (·.size) = some k) (hn : cs.length = Nat.min sLen dLen * k)
    (hsrc : 0 < cs.length → ∃ a, sp = some a ∧ ∀ j v, cs[j]? = some v → w.cell? (a.add j) = some v) (hc : ∀ j, j < cs.length → (w.cell? ⟨b, o + j, none⟩).isSome = true) (hf : ∀ j, j < cs.length → w.frozen? ⟨b, o + j, none⟩ = false) (h1 : ∀ v ∈ cs, v.oneCell' = true) :
    (Builtin.copy_ #[dT, sT] ty #[.slice (some ⟨b, o, none⟩) dLen dCap, .slice sp sLen sCap]).run P w = .ok (goInt (Nat.min sLen dLen)) (w.setCells b o cs) := by
  have hst := run_storeCells_cells (P := P) b o cs 0 w (by simpa using hc) (by simpa using hf) h1
  cases hq : P.info? elem with
  | none => simp [hq] at hs
  | some i =>
    have hi : i.size = k := by simpa [hq] using hs
    by_cases h0 : 0 < cs.length
    · obtain ⟨a, rfl, ha⟩ := hsrc h0
      have hl := run_loadCells_list (P := P) w a cs ha
      rw [hn] at hl
      simp [Builtin.copy_, run_underlying hu, Builtin.lenOf, Builtin.firstCells, sizeOf, typeInfo, hq, hi, hl, hst]
    · obtain rfl : cs = [] := List.eq_nil_of_length_eq_zero (by omega)
      have hn0 : Nat.min sLen dLen * k = 0 := by simpa using hn.symm
      have hl : ∀ (x : Addr), (loadCells x 0).run P w = .ok #[] w := fun x => by simpa using run_loadCells_list (P := P) w x [] (by simp)
      cases sp <;> simp [Builtin.copy_, run_underlying hu, Builtin.lenOf, Builtin.firstCells, sizeOf, typeInfo, hq, hi, hn0, storeCells, hl, World.setCells]
theorem wpList_copy_k {P : Program} {w : World} {ops : Array Oper} {rest : List Oper} {o : Oper} {a : Act} {Q : Exit → Act → World → Prop} (hgd : o.guard = none) (d s : Operand) (dT sT : TypeId)
    (ho : o.op = .call { callee := .builtin .copy, args := #[d, s], argTypes := #[dT, sT] }) (elem : TypeId) (k : Nat) (hu : P.underlying dT = some (.slice elem)) (hsz : (P.info? elem).map (·.size) = some k)
    (g dLen dCap : Nat) (sp : Option Addr) (sLen sCap : Nat) (hd : a.eval d = .slice (some ⟨g, 0, none⟩) dLen dCap) (hs : a.eval s = .slice sp sLen sCap)
    (cs : List Value) (hn : cs.length = Nat.min sLen dLen * k) (hsrc : 0 < cs.length → ∃ a, sp = some a ∧ ∀ j v, cs[j]? = some v → w.cell? (a.add j) = some v) (hc : ∀ j, j < cs.length → (w.cell? ⟨g, j, none⟩).isSome = true) (hf : ∀ j, j < cs.length → w.frozen? ⟨g, j, none⟩ = false) (h1 : ∀ v ∈ cs, v.oneCell' = true)
    (h : wpList P ops Q rest (a.put o.dst (goInt (Nat.min sLen dLen))) (w.setCells g 0 cs)) : wpList P ops Q (o :: rest) a w := by
  refine wpList_plain hgd fun K hK => ?_
  have hrun := run_copy_k (P := P) w dT sT o.type elem g 0 dLen dCap sp sLen sCap k cs hu hsz hn hsrc (by simpa using hc) (by simpa using hf) h1
  unfold Oper.wp
  simp [execOp, ho, resolve, invoke, builtin, hd, hs, hrun, Result.andThen]
  exact hK _ _ h
/-- The places of a list, in its order. -/
def Srt (l : List Ev) (p : List Nat) : Prop := p.Perm (List.range l.length) ∧ p.Pairwise (fun x y => prec (lessI l) y x = false)
theorem Srt.one {l : List Ev} {p q : List Nat} (h : Srt l p) (g : Srt l q) : p = q := sorted_one p q h.2 g.2 (h.1.trans g.1.symm)
theorem Srt.len {l : List Ev} {p : List Nat} (h : Srt l p) : p.length = l.length := by have := h.1.length_eq; simpa using this
/-- A list's events at places. -/
def pick (l : List Ev) (p : List Nat) : List Ev := p.map (fun i => l.getD i zeroE)
theorem pick_len (l : List Ev) (p : List Nat) : (pick l p).length = p.length := by unfold pick; rw [List.length_map]
theorem srt_of {l : List Ev} {r : Array Nat} (hp : Go.Sort.PermIn 0 l.length (Array.range l.length) r) (hs : Go.Sort.SortedIn (prec (lessI l)) 0 l.length r) : Srt l r.toList := by
  have hsz : r.size = l.length := by have := hp.1; simpa using this
  constructor
  · have h := hp.2.2
    have e1 : (r.extract 0 l.length) = r := by rw [← hsz]; simp
    have e2 : ((Array.range l.length).extract 0 l.length) = Array.range l.length := by
      have : (Array.range l.length).size = l.length := by simp
      conv => lhs; rw [← this]
      simp
    rw [e1, e2] at h
    simpa using h
  · rw [List.pairwise_iff_getElem]
    intro i j hi hj hij
    have h := hs i j (Nat.zero_le _) hij (by have : j < r.size := by simpa using hj
                                             omega)
    rw [getElem!_pos r i (by simpa using hi), getElem!_pos r j (by simpa using hj)] at h
    simpa using h
theorem holds_cells {l : List Ev} {w : World} {g : Nat} {r : Array Nat} (h : Go.Sort.HoldsK (encI l) 8 w g 0 r) : ∀ (j : Nat) u, (evsL (pick l r.toList))[j]? = some u → w.cell? ((⟨g, 0, none⟩ : Addr).add j) = some u := by
  intro j u hu
  obtain ⟨h1, h2, h3⟩ := evs_place hu
  have h1' : j / 8 < r.size := by rw [pick_len] at h1; simpa using h1
  have c := (h.cell h1' h3).1
  rw [h2] at hu
  rw [evsL_get _ _ _ h1 h3] at hu
  have e : (pick l r.toList)[j / 8] = l.getD r[j / 8]! zeroE := by
    have e0 : (pick l r.toList)[j / 8]? = some (l.getD r[j / 8]! zeroE) := by
      unfold pick
      rw [List.getElem?_map, Array.getElem?_toList, Array.getElem?_eq_getElem h1', getElem!_pos r _ h1']; rfl
    rw [List.getElem?_eq_getElem h1] at e0
    exact Option.some.inj e0
  rw [e] at hu
  have ea : (⟨g, 0, none⟩ : Addr).add j = ⟨g, 0 + j / 8 * 8 + j % 8, none⟩ := by
    unfold Addr.add
    split
    · rename_i hz
      subst hz; rfl
    · simp only [Nat.zero_add]
      rw [← h2]
  rw [ea, c]
  have h8 : (evL (l.getD r[j / 8]! zeroE)).length = 8 := rfl
  rw [List.getElem?_eq_getElem (by omega)] at hu
  rw [← hu]
  show some (evL (l.getD r[j / 8]! zeroE))[j % 8]! = _
  rw [getElem!_pos _ _ (by omega)]
theorem holds_evs {l : List Ev} {w : World} {g B cap : Nat} {r : Array Nat} (h : Go.Sort.HoldsK (encI l) 8 w g 0 r) (hc : r.size ≤ cap) (hB : g < B) : Evs w B (.slice (some ⟨g, 0, none⟩) r.size cap) (pick l r.toList) := by
  have e : (pick l r.toList).length = r.size := by rw [pick_len]; simp
  have := Evs.of (w := w) (B := B) (ad := ⟨g, 0, none⟩) (cap := cap) (es := pick l r.toList) (by omega) (fun _ => hB) (holds_cells h)
  rw [e] at this
  exact this
/-- A row of a list's cells is a row of its places. -/
theorem holds_range {l : List Ev} {w : World} {g : Nat} (hc : ∀ (j : Nat) u, (evsL l)[j]? = some u → w.cell? ⟨g, j, none⟩ = some u) (hf : ∀ j, j < l.length * 8 → w.frozen? ⟨g, j, none⟩ = false) : Go.Sort.HoldsK (encI l) 8 w g 0 (Array.range l.length) := by
  intro j hj
  rw [Go.Sort.size_flatK] at hj
  have hj8 : j < l.length * 8 := by simpa using hj
  rw [Nat.zero_add]
  refine ⟨?_, hf j hj8⟩
  have hi : j / 8 < l.length := by omega
  have hm : j % 8 < 8 := by omega
  rw [Go.Sort.get_flatK _ _ _ _ hj, range_get _ _ hi]
  have e := evsL_get l (j / 8) (j % 8) hi hm
  have h8 : (evL l[j / 8]).length = 8 := rfl
  rw [List.getElem?_eq_getElem (show j % 8 < (evL l[j / 8]).length by omega), show j / 8 * 8 + j % 8 = j by omega] at e
  rw [hc j _ e]
  have e2 : encI l (j / 8) = evL l[j / 8] := by unfold encI; rw [List.getD_eq_getElem?_getD, List.getElem?_eq_getElem hi]; rfl
  rw [e2, getElem!_pos _ _ (by omega)]
  rfl
theorem swk_below {l : List Ev} {w w' : World} {g : Nat} {r : Array Nat} (h : SWK (encI l) 8 w g 0 r w') (B : Nat) (hB : B ≤ g) (hw : B ≤ w.heap.size) : Below B w w' := by
  obtain ⟨n, os, rfl⟩ := h
  have b1 : Below B w (Go.Sort.putRowK (encI l) 8 (Go.Sort.ahead w n) g 0 r) := by
    unfold Go.Sort.putRowK Go.Sort.putRow Go.Sort.mapBlock Go.Sort.ahead
    refine ⟨rfl, rfl, rfl, by simp, fun k hk => ?_⟩
    show (w.heap.modify g _)[k]? = _
    rw [Array.getElem?_modify, if_neg (by omega)]
  unfold sortWorldK
  exact b1.trans ((Lib.below_grow B _ (by have := b1.size; omega) 0 os).mono (Nat.le_refl _))
end Go.Proofs.YthfhfekneahonaaDoor
