/- Same, the reference's; what its Sort does with rows. -/
import Derived.Test.YthfhfekneahonaaDoorSh
import Derived.Deep.RegionHeld3
import Derived.Deep.DeepCutAuto
import Derived.Laws.AppendOwn
namespace Go.Proofs.YthfhfekneahonaaDoor
open Go.RowKit
set_option linter.unusedVariables false
set_option maxRecDepth 100000 in
set_option maxHeartbeats 1000000 in
theorem rsame_any (b1 b2 : Value) (es : List Ev) (hle : es.length ≤ 1000) (w : World) (h1 : Evs w w.heap.size b1 es) (h2 : Evs w w.heap.size b2 es) :
    Calls Tryd.prog 31 #[b1, b2] w fun e w' => e = .returned (.bool true) ∧ Below w.heap.size w w' := by
  obtain ⟨q1, c1, rfl⟩ := h1.shape
  obtain ⟨q2, c2, rfl⟩ := h2.shape
  have H1 := Lib.hid h1
  have H2 := Lib.hid h2
  clear h1 h2
  go_enter Tryd.func31, Tryd.ntmps31
  go_wp2_with fail
  go_loopw [5] (fun i wr => ∃ k : Nat, k ≤ es.length ∧ i = .int .i64 k ∧ Hid (Evs wr w.heap.size (.slice q1 es.length c1) es) ∧ Hid (Evs wr w.heap.size (.slice q2 es.length c2) es) ∧ Below w.heap.size w wr) (fun i _ => es.length - (intOf i).toNat)
  case atStart => exact ⟨0, by omega, rfl, H1, H2, Below.refl _ _⟩
  case round =>
    obtain ⟨k, hk, rfl, E1, E2, hb⟩ := hrel
    by_cases hlt : k < es.length
    · obtain ⟨ad, rfl, hab, hc⟩ := E1.out.at k hlt
      obtain ⟨ad2, rfl, hab2, hd⟩ := E2.out.at k hlt
      obtain ⟨c0, c1', c2', c3, c4, c5, c6, c7⟩ := hc
      obtain ⟨d0, d1, d2, d3, d4, d5, d6, d7⟩ := hd
      obtain ⟨ev, hev⟩ : ∃ ev, es[k] = ev := ⟨_, rfl⟩
      rw [hev] at c0 c1' c2' c3 c4 c5 c6 c7 d0 d1 d2 d3 d4 d5 d6 d7
      obtain ⟨s, n, a, kd, p, i, v, t⟩ := ev
      simp only at c0 c1' c2' c3 c4 c5 c6 c7 d0 d1 d2 d3 d4 d5 d6 d7
      clear hev
      have HB := Lib.hid hb
      clear hb
      go_wp2
      go_quiet (fail)
      have hb2 : Below w.heap.size w (wr.drewN nq) := below_drewN HB.out nq
      have E1' : Hid (Evs (wr.drewN nq) w.heap.size (.slice (some ad) es.length c1) es) := E1.out.below (below_drewN (Below.refl _ _) nq) (Nat.le_refl _)
      have E2' : Hid (Evs (wr.drewN nq) w.heap.size (.slice (some ad2) es.length c2) es) := E2.out.below (below_drewN (Below.refl _ _) nq) (Nat.le_refl _)
      clear c0 c1' c2' c3 c4 c5 c6 c7 d0 d1 d2 d3 d4 d5 d6 d7 HB E1 E2
      go_wp2
      go_roundw
      case rel => exact ⟨k + 1, by omega, by go_num, E1', E2', hb2⟩
      case measure => simp [intOf]; omega
    · go_wp2
      go_ret
      exact ⟨rfl, hb⟩
theorem wpAnyH_to2 {P : Program} {md : Region.Mode} {ops : Array Oper} {Q : Exit → Act → World → Prop} {S S' : World → Prop} (hS : ∀ w, S' w → S w) : ∀ (fuel : Nat) (listed : Array Bool) (a : Act) (w : World), wpAnyH P md ops Q S' fuel listed a w → wpAnyH P md ops Q S fuel listed a w
  | 0, _, _, _, h => h
  | fuel + 1, _, _, _, h => ⟨h.1, fun i hi => wpOp_mono (fun a' w' h' => ⟨hS w' h'.1, wpAnyH_to2 hS fuel _ a' w' h'.2⟩) (h.2 i hi)⟩
/-- 'append' to a row of one's own, that is there: what it leaves is there. -/
theorem own_shape {w : World} {base : Nat} {e : TypeId} {size : Nat} {v : Value} {n : Nat} {xs : List Value} (h : w.ownsRow base e size v n xs) (hv : v ≠ .slice none 0 0) : ∃ g cap, v = .slice (some ⟨g, 0, none⟩) n cap ∧ base ≤ g ∧ g < w.heap.size ∧ n ≤ cap := by
  obtain ⟨h1, h2⟩ := h
  rcases h2 with ⟨h0, _⟩ | ⟨g, cap, cur, rfl, hg, hh, hc, r⟩
  · exact absurd h0 hv
  · exact ⟨g, cap, rfl, hg, lt_of_block hh, hc⟩
theorem step_app {P : Program} {w : World} {ops : Array Oper} {o : Oper} {a : Act} {K : Act → World → Prop} {Q : Exit → Act → World → Prop} {E : Prop} (hgd : o.guard = none) (s x : Operand) (t : TypeId)
    (ho : o.op = .call { callee := .builtin .append, args := #[s, x], argTypes := #[t, t] })
    (base : Nat) (e : TypeId) (i : TypeInfo) (z : Value) (size bytes : Nat) (ht : P.underlying t = some (.slice e)) (hi : P.info? e = some i) (hz : i.zero = some z)
    (hsize : i.size = size) (hby : i.bytes = bytes) (hzs : z.cells.size = size) (hsz : 0 < size)
    (g0 c0 n : Nat) (xs : List Value) (hs : a.eval s = .slice (some ⟨g0, 0, none⟩) n c0) (hown : w.ownsRow base e size (.slice (some ⟨g0, 0, none⟩) n c0) n xs)
    (ad : Addr) (m c : Nat) (news : List Value) (hx : a.eval x = .slice (some ad) m c) (hl : news.length = m * size) (hnews : ∀ j u, news[j]? = some u → w.cell? (ad.add j) = some u) (h1 : ∀ u ∈ news, u.oneCell' = true)
    (h63 : n + m ≤ maxLen) (hbytes : (n + m) * bytes ≤ 140737488355328) (hbase : base ≤ w.heap.size)
    (h : ∀ g cap w', w'.ownsRow base e size (.slice (some ⟨g, 0, none⟩) (n + m) cap) (n + m) (xs ++ news) → w.grownBy w' (some g0) → base ≤ g → g < w'.heap.size → K (a.put o.dst (.slice (some ⟨g, 0, none⟩) (n + m) cap)) w') :
    if Region.wanted o (yielded ops a.tmps) = true then Oper.wp P o a w K Q else E := by
  have hw : Region.wanted o (yielded ops a.tmps) = true := by simp [Region.wanted, hgd]
  rw [if_pos hw]
  refine wp_append_own w s x t ho base e i z size bytes ht hi hz hsize hby hzs hsz _ n xs hs hown ad m c news hx hl hnews h1 h63 hbytes hbase fun v' w' h2 h3 h4 => ?_
  obtain ⟨g, cap, rfl, hg, hlt, _⟩ := own_shape h2 (fun e0 => by have := (h4.1 e0).1; cases this)
  exact h g cap w' h2 h3 hg hlt
theorem own_keep {w w' : World} {base : Nat} {e : TypeId} {size : Nat} {g n cap : Nat} {xs : List Value} (h : w.ownsRow base e size (.slice (some ⟨g, 0, none⟩) n cap) n xs) (he : w'.heap[g]? = w.heap[g]?) : w'.ownsRow base e size (.slice (some ⟨g, 0, none⟩) n cap) n xs := by
  obtain ⟨h1, h2⟩ := h
  refine ⟨h1, ?_⟩
  rcases h2 with ⟨h0, r⟩ | ⟨g', cap', cur, hv, hg, hh, r⟩
  · cases h0
  · injection hv with e1 e2 e3
    injection e1 with e1
    injection e1 with e1
    subst e1 e3
    exact .inr ⟨_, _, cur, rfl, hg, by rw [he]; exact hh, r⟩
theorem own_lt {w : World} {base : Nat} {e : TypeId} {size : Nat} {g n cap : Nat} {xs : List Value} (h : w.ownsRow base e size (.slice (some ⟨g, 0, none⟩) n cap) n xs) : base ≤ g ∧ g < w.heap.size ∧ n ≤ cap := by
  obtain ⟨g', cap', hv, h1, h2, h3⟩ := own_shape h (fun e => by cases e)
  injection hv with e1 e2 e3
  injection e1 with e1
  injection e1 with e1
  subst e1 e3
  exact ⟨h1, h2, h3⟩
/-- What the reference's Sort holds: the list, and the row that is sorted so far. -/
structure RSo (W : World) (l : List Ev) (q : Option Addr) (cap : Nat) (ps : List Nat) (g cp : Nat) (w : World) : Prop where
  ev : Evs w W.heap.size (.slice q l.length cap) l
  own : w.ownsRow W.heap.size 24 8 (.slice (some ⟨g, 0, none⟩) ps.length cp) ps.length (evsL (pick l ps))
  bw : Below W.heap.size W w
theorem RSo.below {W w w' : World} {l : List Ev} {q : Option Addr} {cap : Nat} {ps : List Nat} {g cp : Nat} (h : RSo W l q cap ps g cp w) (hb : Below w.heap.size w w') : RSo W l q cap ps g cp w' :=
  ⟨h.ev.below hb h.bw.size, own_keep h.own (hb.block g (own_lt h.own).2.1), h.bw.trans (hb.mono h.bw.size)⟩
theorem RSo.row {W w : World} {l : List Ev} {q : Option Addr} {cap : Nat} {ps : List Nat} {g cp : Nat} (h : RSo W l q cap ps g cp w) : ∀ (j : Nat) u, (evsL (pick l ps))[j]? = some u → w.cell? ((⟨g, 0, none⟩ : Addr).add j) = some u := World.ownsRow.cells h.own rfl
theorem RSo.elem {W w : World} {l : List Ev} {q : Option Addr} {cap : Nat} {ps : List Nat} {g cp : Nat} (h : RSo W l q cap ps g cp w) (j : Nat) (hj : j < ps.length) : EvIn w ⟨g, 0, none⟩ j (l.getD ps[j] zeroE) := by
  have hjp : j < (pick l ps).length := by rw [pick_len]; exact hj
  have e : (pick l ps)[j] = l.getD ps[j] zeroE := by simp [pick]
  rw [← e]
  refine EvIn.of fun m hm => ?_
  have h8 : (evL (pick l ps)[j]).length = 8 := rfl
  have e2 := evsL_get (pick l ps) j m hjp hm
  rw [List.getElem?_eq_getElem (show m < (evL (pick l ps)[j]).length by omega)] at e2 ⊢
  exact h.row _ _ e2
theorem own_lit8 (w : World) (B : Nat) (hB : B ≤ w.heap.size) : (w.alloc (.cells #[] 24)).ownsRow B 24 8 (.slice (some ⟨w.heap.size, 0, none⟩) 0 0) 0 [] :=
  ⟨rfl, .inr ⟨w.heap.size, 0, #[], rfl, hB, heap_alloc_new w _, Nat.le_refl _, Nat.zero_le _, rfl, rfl⟩⟩
/-- The places so far: of the first ones, in order. -/
def SrtTo (l : List Ev) (i : Nat) (p : List Nat) : Prop := p.Perm (List.range i) ∧ p.Pairwise (fun x y => prec (lessI l) y x = false)
theorem SrtTo.len {l : List Ev} {i : Nat} {p : List Nat} (h : SrtTo l i p) : p.length = i := by have := h.1.length_eq; simpa using this
theorem SrtTo.lt {l : List Ev} {i : Nat} {p : List Nat} (h : SrtTo l i p) {x : Nat} (hx : x ∈ p) : x < i := by have := h.1.mem_iff.1 hx; simpa using this
/-- One more is put in its place. -/
theorem SrtTo.ins {l : List Ev} {i : Nat} {p : List Nat} (h : SrtTo l i p) (m : Nat) (hm : m ≤ p.length) (h1 : ∀ (t : Nat) (ht : t < p.length), m ≤ t → lessI l i p[t] = true) (h2 : ∀ (h0 : 0 < m), lessI l i (p[m - 1]'(by omega)) = false) : SrtTo l (i + 1) (p.take m ++ [i] ++ p.drop m) := by
  have P := prec_swo (lessI_swo l)
  have hp := List.pairwise_iff_getElem.1 h.2
  constructor
  · rw [List.range_succ]
    refine List.Perm.trans ?_ (List.Perm.append_right _ h.1)
    rw [List.append_assoc]
    have e : p ++ [i] = p.take m ++ (p.drop m ++ [i]) := by rw [← List.append_assoc, List.take_append_drop]
    rw [e]
    exact List.Perm.append_left _ List.perm_append_comm
  · rw [List.append_assoc, List.pairwise_append]
    refine ⟨h.2.sublist (List.take_sublist _ _), ?_, ?_⟩
    · rw [List.singleton_append, List.pairwise_cons]
      refine ⟨fun y hy => ?_, h.2.sublist (List.drop_sublist _ _)⟩
      obtain ⟨k, hk, e⟩ := List.getElem_of_mem hy
      rw [List.length_drop] at hk
      rw [List.getElem_drop] at e
      have hl := h1 (m + k) (by omega) (by omega)
      rw [e] at hl
      have hlt := h.lt (List.mem_of_mem_drop hy)
      exact P.asymmA (by rw [prec_late hlt]; exact hl)
    · intro x hx y hy
      obtain ⟨a, ha, ea⟩ := List.getElem_of_mem hx
      rw [List.length_take] at ha
      rw [List.getElem_take] at ea
      rw [List.singleton_append, List.mem_cons] at hy
      rcases hy with rfl | hy
      · have hlt := h.lt (List.mem_of_mem_take hx)
        rw [prec_late hlt]
        have h0 := h2 (by omega)
        have hmm : p[m - 1]'(by omega) < y := h.lt (List.getElem_mem _)
        rw [← prec_late (lt := lessI l) hmm] at h0
        rw [← prec_late (lt := lessI l) hlt, ← ea]
        by_cases e : a = m - 1
        · subst e; exact h0
        · exact P.ntrans _ _ _ h0 (hp a (m - 1) (by omega) (by omega) (by omega))
      · obtain ⟨k, hk, e⟩ := List.getElem_of_mem hy
        rw [List.length_drop] at hk
        rw [List.getElem_drop] at e
        rw [← ea, ← e]
        exact hp a (m + k) (by omega) (by omega) (by omega)
theorem pick_take (l : List Ev) (p : List Nat) (m : Nat) : pick l (p.take m) = (pick l p).take m := by unfold pick; rw [List.map_take]
theorem pick_app (l : List Ev) (p q : List Nat) : pick l (p ++ q) = pick l p ++ pick l q := by unfold pick; rw [List.map_append]
end Go.Proofs.YthfhfekneahonaaDoor
