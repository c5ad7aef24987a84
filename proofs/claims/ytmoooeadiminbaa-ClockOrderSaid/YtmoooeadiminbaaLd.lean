/- The order in which things are heard plays no part: plainly; rows of acts of the call's own. -/
import Derived.Test.YtmoooeadiminbaaLc
import Derived.Test.YtmoooeadiminbaaS
import Derived.Laws.AppendOwnNone
import Derived.Deep.AppendLies
namespace Go.Proofs.Ytmoooeadiminbaa
open Go.RowKit Go.Maps
set_option linter.unusedVariables false
/-- All of these are heard, one behind the other, at the time 0. -/
def hearL (k : Ck) (l : List Ac) : Ck := l.foldl (fun k o => hearC k o.name o.far 0) k
def okL : Ck → List Ac → Bool
  | _, [] => true
  | k, o :: r => hearB k o.name o.far 0 && okL (hearC k o.name o.far 0) r
theorem hearL_snoc (k : Ck) (l : List Ac) (o : Ac) : hearL k (l ++ [o]) = hearC (hearL k l) o.name o.far 0 := by unfold hearL; rw [List.foldl_append]; rfl
theorem okL_snoc : ∀ (k : Ck) (l : List Ac) (o : Ac), okL k (l ++ [o]) = (okL k l && hearB (hearL k l) o.name o.far 0)
  | k, [], o => by simp [okL, hearL]
  | k, x :: r, o => by
    have ih := okL_snoc (hearC k x.name x.far 0) r o
    simp only [List.cons_append, okL, ih, Bool.and_assoc]
    rfl
/-- The farthest that was told of a name. -/
def best (l : List Ac) (n : List UInt8) : Int := (l.filter fun o => decide (o.name = n)).foldl (fun m o => max m o.far) (-1)
theorem best_snoc (l : List Ac) (o : Ac) (n : List UInt8) : best (l ++ [o]) n = if o.name = n then max (best l n) o.far else best l n := by
  unfold best
  rw [List.filter_append, List.foldl_append]
  by_cases h : o.name = n
  · simp [h]
  · simp [h]
theorem best_perm {l m : List Ac} (h : l.Perm m) (n : List UInt8) : best l n = best m n := by
  unfold best
  exact (h.filter _).foldl_eq' (fun x _ y _ z => by omega) (-1)
theorem getK_insK {x : Sr} {L : List Sr} (hs : Sorted Sr.name L) (n : List UInt8) : getK Sr.name n (insK Sr.name x L) = if n = x.name then some x else getK Sr.name n L := by
  have hs' := sorted_insK (x := x) hs
  split
  · rename_i h
    subst h
    exact getK_mem hs' ((mem_insK hs).2 (.inl rfl))
  · rename_i h
    cases hg : getK Sr.name n L with
    | none =>
      cases hi : getK Sr.name n (insK Sr.name x L) with
      | none => rfl
      | some e =>
        obtain ⟨h1, h2⟩ := getK_some hi
        rcases (mem_insK hs).1 h1 with rfl | ⟨h3, _⟩
        · exact absurd h2.symm h
        · exact absurd h2 (getK_none hg e h3)
    | some e =>
      obtain ⟨h1, h2⟩ := getK_some hg
      subst h2
      exact getK_mem hs' ((mem_insK hs).2 (.inr ⟨h1, h⟩))
theorem heard_hear {k : Ck} (h : OkC k) {n : List UInt8} {a t : Int} (hb : hearB k n a t = true) (m : List UInt8) : heardC (hearC k n a t) m = if n = m then max (heardC k m) a else heardC k m := by
  unfold hearC
  rw [if_pos hb]
  show heardC (putC (tickC k t) n a) m = _
  unfold heardC
  rw [show (putC (tickC k t) n a).L = insK Sr.name ⟨n, max a (heardC (tickC k t) n), (tickC k t).now⟩ k.L from rfl, getK_insK h.sorted]
  by_cases e : n = m
  · subst e
    simp only [if_true]
    show max a (heardC (tickC k t) n) = _
    unfold heardC
    rw [show (tickC k t).L = k.L from rfl]
    omega
  · rw [if_neg (fun e' => e e'.symm), if_neg e]
theorem ok_hearL : ∀ (l : List Ac) {k : Ck}, OkC k → OkC (hearL k l)
  | [], k, h => h
  | o :: r, k, h => ok_hearL r (h.hear o.name o.far 0)
theorem heard_all (s : Int) : ∀ (n : Nat) (l : List Ac), l.length = n → okL (newC s 0) l = true → ∀ m, heardC (hearL (newC s 0) l) m = best l m
  | 0, l, hn, h, m => by
    obtain rfl := List.length_eq_zero_iff.1 hn
    rfl
  | n + 1, l, hn, h, m => by
    rcases List.eq_nil_or_concat l with rfl | ⟨r, o, rfl⟩
    · simp at hn
    · rw [List.concat_eq_append] at hn h ⊢
      rw [okL_snoc] at h
      simp only [Bool.and_eq_true] at h
      have ih := heard_all s n r (by simp at hn; omega) h.1 m
      rw [hearL_snoc, heard_hear (ok_hearL r (ok_new s 0)) h.2, best_snoc, ih]
theorem idle_hear (k : Ck) (n : List UInt8) (a t : Int) : (hearC k n a t).idle = k.idle := by unfold hearC; split <;> rfl
theorem idle_all (s : Int) : ∀ (l : List Ac) {k : Ck}, k.idle = 0 → (hearL k l).idle = 0
  | [], k, h => h
  | o :: r, k, h => idle_all s r (by rw [idle_hear]; exact h)
theorem name_heard {k : Ck} (h : OkC k) (n : List UInt8) : n ∈ k.L.map Sr.name ↔ heardC k n ≠ -1 := by
  unfold heardC
  constructor
  · intro hn
    obtain ⟨s, hs, rfl⟩ := List.mem_map.1 hn
    rw [getK_mem h.sorted hs]
    have := h.far s hs
    simp only
    omega
  · intro hn
    cases hg : getK Sr.name n k.L with
    | none => rw [hg] at hn; simp at hn
    | some s =>
      obtain ⟨h1, h2⟩ := getK_some hg
      exact List.mem_map.2 ⟨s, h1, h2⟩
/-- Two rising lists with the same texts are the same. -/
theorem rising_eq : ∀ {a b : List (List UInt8)}, a.Pairwise (fun x y => x < y) → b.Pairwise (fun x y => x < y) → (∀ n, n ∈ a ↔ n ∈ b) → a = b
  | [], [], _, _, _ => rfl
  | [], y :: s, _, _, h => by have := (h y).2 (by simp); simp at this
  | x :: r, [], _, _, h => by have := (h x).1 (by simp); simp at this
  | x :: r, y :: s, h1, h2, h => by
    obtain ⟨a1, a2⟩ := List.pairwise_cons.1 h1
    obtain ⟨b1, b2⟩ := List.pairwise_cons.1 h2
    have hxy : x = y := by
      rcases List.mem_cons.1 ((h x).1 (by simp)) with e | hx
      · exact e
      · rcases List.mem_cons.1 ((h y).2 (by simp)) with e | hy
        · exact e.symm
        · exact absurd (lt_tr (a1 y hy) (b1 x hx)) (lt_irr _)
    subst hxy
    rw [rising_eq a2 b2 (fun n => ⟨fun hn => by
      rcases List.mem_cons.1 ((h n).1 (by simp [hn])) with e | h'
      · have := a1 n hn; rw [e] at this; exact absurd this (lt_irr _)
      · exact h', fun hn => by
      rcases List.mem_cons.1 ((h n).2 (by simp [hn])) with e | h'
      · have := b1 n hn; rw [e] at this; exact absurd this (lt_irr _)
      · exact h'⟩)]
/-- Two clocks that know of the same. -/
structure SameR (a b : Ck) : Prop where
  names : a.L.map Sr.name = b.L.map Sr.name
  heard : ∀ n, heardC a n = heardC b n
  actA : ∀ n, n ∈ a.L.map Sr.name → activeC a n = true
  actB : ∀ n, n ∈ b.L.map Sr.name → activeC b n = true
theorem act_idle {k : Ck} (h : OkC k) (h0 : k.idle = 0) {n : List UInt8} (hn : n ∈ k.L.map Sr.name) : activeC k n = true := by
  obtain ⟨s, hs, rfl⟩ := List.mem_map.1 hn
  unfold activeC
  rw [getK_mem h.sorted hs]
  show act k s = true
  unfold act
  simp [h0]
theorem same_of (s : Int) {l m : List Ac} (hp : l.Perm m) (h1 : okL (newC s 0) l = true) (h2 : okL (newC s 0) m = true) : SameR (hearL (newC s 0) l) (hearL (newC s 0) m) := by
  have o1 := ok_hearL l (ok_new s 0)
  have o2 := ok_hearL m (ok_new s 0)
  have hh : ∀ n, heardC (hearL (newC s 0) l) n = heardC (hearL (newC s 0) m) n := fun n => by
    rw [heard_all s _ l rfl h1, heard_all s _ m rfl h2, best_perm hp]
  refine ⟨rising_eq (List.pairwise_map.2 o1.sorted) (List.pairwise_map.2 o2.sorted) (fun n => by rw [name_heard o1, name_heard o2, hh]), hh, fun n hn => act_idle o1 (idle_all s l (by show near 0 = 0; decide)) hn, fun n hn => act_idle o2 (idle_all s m (by show near 0 = 0; decide)) hn⟩
/-- The cells of acts. -/
def acC (o : Ac) : List Value := [.int .i64 o.kind, .string (bs o.name), .int .i64 o.far, .int .i64 o.now]
def acsL (l : List Ac) : List Value := l.flatMap acC
theorem acsL_cons (o : Ac) (l : List Ac) : acsL (o :: l) = acC o ++ acsL l := rfl
theorem acsL_app (a b : List Ac) : acsL (a ++ b) = acsL a ++ acsL b := by unfold acsL; rw [List.flatMap_append]
theorem acsL_len : ∀ l : List Ac, (acsL l).length = l.length * 4
  | [] => rfl
  | o :: r => by rw [acsL_cons, List.length_append, acsL_len r, List.length_cons]; show 4 + _ = _; omega
theorem acsL_get : ∀ (l : List Ac) (j k : Nat) (hj : j < l.length), k < 4 → (acsL l)[j * 4 + k]? = (acC l[j])[k]?
  | o :: r, 0, k, _, hk => by
    rw [acsL_cons, List.getElem?_append_left (by show _ < 4; omega)]
    simp
  | o :: r, j + 1, k, hj, hk => by
    rw [acsL_cons, List.getElem?_append_right (by show 4 ≤ _; omega)]
    rw [show (j + 1) * 4 + k - (acC o).length = j * 4 + k by show _ - 4 = _; omega]
    rw [acsL_get r j k (by simp at hj; omega) hk]
    rfl
theorem acsL_one (l : List Ac) : ∀ u ∈ acsL l, u.oneCell' = true := by
  intro u hu
  obtain ⟨o, _, ho⟩ := List.mem_flatMap.1 hu
  simp only [acC, List.mem_cons, List.not_mem_nil, or_false] at ho
  rcases ho with rfl | rfl | rfl | rfl <;> rfl
theorem acs_cells {w : World} {ad : Addr} {l : List Ac} (h : ∀ (j : Nat) (hj : j < l.length), AcIn w ad j l[j]) : ∀ j u, (acsL l)[j]? = some u → w.cell? (ad.add j) = some u := by
  intro j u hu
  have hlt := (List.getElem?_eq_some_iff.1 hu).1
  rw [acsL_len] at hlt
  have hj : j / 4 < l.length := by omega
  have e : j = j / 4 * 4 + j % 4 := by omega
  rw [e, acsL_get l (j / 4) (j % 4) hj (by omega)] at hu
  obtain ⟨h0, h1, h2, h3⟩ := h (j / 4) hj
  rw [e, ← Addr.add_add]
  have h4 : j % 4 < 4 := by omega
  match hk : j % 4, h4 with
  | 0, _ => rw [hk] at hu; rw [Addr.add_zero']; rw [h0]; exact hu
  | 1, _ => rw [hk] at hu; exact h1.trans hu
  | 2, _ => rw [hk] at hu; exact h2.trans hu
  | 3, _ => rw [hk] at hu; exact h3.trans hu
theorem info29 : (Try.prog.info? 29).map (fun i => (i.zero, i.size, i.bytes)) = some (some (.agg #[.int .i64 0, .string ⟨#[]⟩, .int .i64 0, .int .i64 0]), 4, 40) := by kernel_rfl
/-- A value owns a row of acts. -/
def AcRow (w : World) (base : Nat) (v : Value) (l : List Ac) : Prop := w.ownsRow base 29 4 v l.length (acsL l)
theorem AcRow.acs {w : World} {base : Nat} {v : Value} {l : List Ac} (h : AcRow w base v l) (hl : l.length ≤ 1000) : Acs w w.heap.size v l := by
  rcases h.2 with ⟨hv, h0⟩ | ⟨g, cap, cur, hv, hb, hg, hc, hm, _⟩
  · exact .inl ⟨List.length_eq_zero_iff.1 h0, hv⟩
  · refine .inr ⟨⟨g, 0, none⟩, cap, hv, hc, by unfold maxLen at hm; omega, fun _ => lt_of_block hg, fun j hj => ?_⟩
    have hcell : ∀ k, k < 4 → ∀ u, (acC l[j])[k]? = some u → w.cell? ((⟨g, 0, none⟩ : Addr).add (j * 4 + k)) = some u := fun k hk u hu => World.ownsRow.cells (hv ▸ h) rfl (j * 4 + k) u (by rw [acsL_get l j k hj hk]; exact hu)
    refine ⟨?_, ?_, ?_, ?_⟩
    · have := hcell 0 (by omega) _ rfl
      rwa [Nat.add_zero] at this
    · have := hcell 1 (by omega) _ rfl
      rw [← Addr.add_add] at this
      exact this
    · have := hcell 2 (by omega) _ rfl
      rw [← Addr.add_add] at this
      exact this
    · have := hcell 3 (by omega) _ rfl
      rw [← Addr.add_add] at this
      exact this
theorem AcRow.form {w : World} {base : Nat} {v : Value} {l : List Ac} (h : AcRow w base v l) : ∃ q cap, v = .slice q l.length cap := by
  rcases h.2 with ⟨hv, h0⟩ | ⟨g, cap, cur, hv, _⟩
  · exact ⟨none, 0, by rw [hv, h0]⟩
  · exact ⟨_, cap, hv⟩
/-- An append of acts, in a region that draws. -/
theorem step_append_acs {ops : Array Oper} {o : Oper} {a : Act} {K : Act → World → Prop} {Q : Exit → Act → World → Prop} {E : Prop} {w : World} (hgd : o.guard = none) (s x : Operand)
    (ho : o.op = .call { callee := .builtin .append, args := #[s, x], argTypes := #[22, 22] }) (base : Nat) (v : Value) (l : List Ac) (hs : a.eval s = v) (hown : AcRow w base v l) (B : Nat) (xv : Value) (m : List Ac) (hx : a.eval x = xv) (hsn : Acs w B xv m)
    (hlen : l.length + m.length ≤ 1000) (hbase : base ≤ w.heap.size)
    (h : ∀ v' w', AcRow w' base v' (l ++ m) → w.grownBy w' v.ownBlock → K (a.put o.dst v') w') : if Region.wanted o (yielded ops a.tmps) = true then Oper.wp Try.prog o a w K Q else E := by
  have hw : Region.wanted o (yielded ops a.tmps) = true := by simp [Region.wanted, hgd]
  rw [if_pos hw]
  obtain ⟨i0, hi, hz0, hz1, hz2⟩ := info_parts info29
  have b1 : l.length + m.length ≤ maxLen := by unfold maxLen; omega
  have b2 : (l.length + m.length) * 40 ≤ 140737488355328 := by omega
  rcases hsn with ⟨rfl, rfl⟩ | ⟨ad, cap, rfl, hc, _, hg, hh⟩
  · have hrun := run_append_owned_none (P := Try.prog) w base 22 o.type 29 i0 4 Try.underlying22 hi v l.length (acsL l) hown
    unfold Oper.wp
    simp [execOp, ho, resolve, invoke, builtin, hs, hx, hrun, Result.andThen]
    exact h v w (by rw [List.append_nil]; exact hown) ⟨rfl, rfl, rfl, Nat.le_refl _, fun _ _ _ => rfl⟩
  · obtain ⟨v', w', hrun, r1, r2, _⟩ := run_append_own (P := Try.prog) w base 22 o.type 29 i0 _ 4 40 Try.underlying22 hi hz0 hz1 hz2 rfl (by decide) v l.length (acsL l) hown ad m.length cap (acsL m) (acsL_len m) (acs_cells hh) (acsL_one m) b1 b2 hbase
    unfold Oper.wp
    simp [execOp, ho, resolve, invoke, builtin, hs, hx, hrun, Result.andThen]
    exact h v' w' (by unfold AcRow; rw [List.length_append, acsL_app]; exact r1) r2
/-- Its first ones, its later ones. -/
theorem Acs.take {w : World} {B : Nat} {ad : Addr} {cap n : Nat} {l : List Ac} (h : Acs w B (.slice (some ad) n cap) l) (k : Nat) (hk : k ≤ l.length) : Acs w B (.slice (some ad) k cap) (l.take k) := by
  rcases h with ⟨h0, hv⟩ | ⟨ad', cap', hv, hc, hc2, hg, hh⟩
  · cases hv
  · injection hv with h1 h2 h3
    cases h1
    subst h2 h3
    have e : (l.take k).length = k := by rw [List.length_take]; omega
    refine .inr ⟨ad, cap, by rw [e], by omega, hc2, fun h0 => hg (by omega), fun j hj => ?_⟩
    rw [e] at hj
    rw [List.getElem_take]
    exact hh j (by omega)
theorem Acs.drop {w : World} {B : Nat} {ad : Addr} {cap n : Nat} {l : List Ac} (h : Acs w B (.slice (some ad) n cap) l) (k : Nat) (hk : k ≤ l.length) : Acs w B (.slice (some (ad.add (k * 4))) (l.length - k) (cap - k)) (l.drop k) := by
  rcases h with ⟨h0, hv⟩ | ⟨ad', cap', hv, hc, hc2, hg, hh⟩
  · cases hv
  · injection hv with h1 h2 h3
    cases h1
    subst h2 h3
    refine .inr ⟨ad.add (k * 4), cap - k, by rw [List.length_drop], by rw [List.length_drop]; omega, by omega, fun h0 => by rw [add_block]; exact hg (by rw [List.length_drop] at h0; omega), fun j hj => ?_⟩
    rw [List.length_drop] at hj
    rw [List.getElem_drop]
    have := hh (k + j) (by omega)
    unfold AcIn at this ⊢
    rw [Addr.add_add, show k * 4 + j * 4 = (k + j) * 4 by omega]
    exact this
end Go.Proofs.Ytmoooeadiminbaa
