/- The order of events, as a sort is handed it: the program's Compare. -/
import Derived.Test.YthfhfekneahonaaDoorSe
import Derived.Test.YthfhfekneahonaaDoorQ
import Derived.Test.YthfhfekneahonaaDoorRb
namespace Go.Proofs.YthfhfekneahonaaDoor
open Go.Shelf Go.RowKit Go.Lib Go.Sort
set_option linter.unusedVariables false
/-- One event against another one. -/
def lessE (a b : Ev) : Bool := lessK a.a b.a a.s b.s a.n b.n
def cmpE (a b : Ev) : Int := cmpK a.a b.a a.s b.s a.n b.n
/-- The cells of an event. -/
def evL (e : Ev) : List Value := [.string e.s, .int .i64 e.n, .int .i64 e.a, .int .i64 e.k, .string e.p, .string e.i, .int .i64 e.v, .string e.t]
theorem cmpE_lt (a b : Ev) : decide (cmpE a b < 0) = lessE a b := by
  unfold cmpE lessE
  rw [cmpK_eq]
  cases h : lessK a.a b.a a.s b.s a.n b.n with
  | true => simp
  | false =>
    simp only [if_false, Bool.false_eq_true]
    split <;> simp
theorem lessE_swo : SWO lessE := by
  have tri : ∀ a b : Ev, (lessE a b = true ∧ lessE b a = false) ∨ (lessE a b = false ∧ lessE b a = true) ∨ (lessE a b = false ∧ lessE b a = false ∧ a.a = b.a ∧ a.s = b.s ∧ a.n = b.n) := fun a b => less_tri a.a b.a a.s b.s a.n b.n
  refine ⟨fun x => ?_, fun x y z h1 h2 => less_trans h1 h2, fun x y z h1 h2 => ?_⟩
  · rcases tri x x with ⟨h, g⟩ | ⟨h, g⟩ | ⟨h, _⟩
    · rw [h] at g; cases g
    · exact h
    · exact h
  · rcases tri x z with ⟨h, _⟩ | ⟨h, _⟩ | ⟨h, _⟩
    · rcases tri x y with ⟨h3, _⟩ | ⟨_, h3⟩ | ⟨_, _, e1, e2, e3⟩
      · rw [h3] at h1; cases h1
      · have := less_trans h3 h
        have h4 : lessE y z = true := this
        rw [h4] at h2; cases h2
      · unfold lessE at h h2
        rw [e1, e2, e3] at h
        rw [h] at h2; cases h2
    · exact h
    · exact h
theorem compare_lays (a b : Ev) (W : World) : Calls Tryd.prog 26 (#[.agg (evL a).toArray, .agg (evL b).toArray] ++ #[]) W fun e w' => e = .returned (.int .i64 (cmpE a b)) ∧ ∃ q os', w' = grow (W.drewN q) os' := by
  obtain ⟨s1, n1, a1, k1, p1, i1, v1, t1⟩ := a
  obtain ⟨s2, n2, a2, k2, p2, i2, v2, t2⟩ := b
  show Calls Tryd.prog 26 #[.agg #[.string s1, .int .i64 n1, .int .i64 a1, .int .i64 k1, .string p1, .string i1, .int .i64 v1, .string t1], .agg #[.string s2, .int .i64 n2, .int .i64 a2, .int .i64 k2, .string p2, .string i2, .int .i64 v2, .string t2]] W fun e w' => e = .returned (.int .i64 (cmpK a1 a2 s1 s2 n1 n2)) ∧ ∃ q os', w' = grow (W.drewN q) os'
  by_cases h1 : a1 = a2
  · subst h1
    by_cases h2 : s1 = s2
    · subst h2
      have e : cmpK a1 a1 s1 s1 n1 n2 = Lib.compareInt n1 n2 := by unfold cmpK; simp
      rw [e]
      clear e
      go_enter Tryd.func26, Tryd.ntmps26
      go_wp2_with (go_at_call 50; refine (Tryd.cmp_Compare_int _ _ _).mono ?_; rintro e w' ⟨rfl, rfl⟩)
      go_ret
      exact ⟨rfl, 0, _, by rw [alloc_eq_grow, alloc_eq_grow, grow_grow]; rfl⟩
    · have e : cmpK a1 a1 s1 s2 n1 n2 = Lib.compareBytes s1.data.toList s2.data.toList := by unfold cmpK; simp [h2]
      rw [e]
      obtain ⟨u1, u2⟩ := strs_ne s1 s2 h2
      clear e h2
      go_enter Tryd.func26, Tryd.ntmps26
      go_wp2_with (go_at_call 51; refine (Tryd.strings_Compare _ _ _).mono ?_; rintro e w' ⟨rfl, rfl⟩)
      go_ret
      exact ⟨rfl, 0, _, by rw [alloc_eq_grow, alloc_eq_grow, grow_grow]; rfl⟩
  · have e : cmpK a1 a2 s1 s2 n1 n2 = Lib.compareInt a1 a2 := by unfold cmpK; simp [h1]
    rw [e]
    have u1 : (a1 == a2) = false := by simpa using h1
    have u2 : (a1 != a2) = true := by simpa using h1
    clear e h1
    go_enter Tryd.func26, Tryd.ntmps26
    go_wp2_with (go_at_call 50; refine (Tryd.cmp_Compare_int _ _ _).mono ?_; rintro e w' ⟨rfl, rfl⟩)
    go_ret
    exact ⟨rfl, 0, _, by rw [alloc_eq_grow, alloc_eq_grow, grow_grow]; rfl⟩
/-- A list's events by their places. -/
def encI (l : List Ev) (i : Nat) : List Value := evL (l.getD i zeroE)
def cmpI (l : List Ev) (i j : Nat) : Int := cmpE (l.getD i zeroE) (l.getD j zeroE)
def lessI (l : List Ev) (i j : Nat) : Bool := lessE (l.getD i zeroE) (l.getD j zeroE)
theorem ltOf_cmpI (l : List Ev) : ltOf (cmpI l) = lessI l := by
  funext i j
  exact cmpE_lt _ _
theorem lessI_swo (l : List Ev) : SWO (lessI l) := ⟨fun x => lessE_swo.irrefl _, fun x y z h1 h2 => lessE_swo.trans _ _ _ h1 h2, fun x y z h1 h2 => lessE_swo.ntrans _ _ _ h1 h2⟩
theorem cmpI_lays (l : List Ev) (blk off size : Nat) (w : World) : CmpLays Tryd.prog 26 #[] (encI l) 8 (cmpI l) blk off size w := fun m os dk hs x y => compare_lays _ _ _
theorem encI_len (l : List Ev) (x : Nat) : (encI l x).length = 8 := rfl
theorem encI_one (l : List Ev) (x : Nat) : ∀ v ∈ encI l x, v.oneCell' = true := by
  intro v hv
  simp only [encI, evL, List.mem_cons, List.not_mem_nil, or_false] at hv
  rcases hv with rfl | rfl | rfl | rfl | rfl | rfl | rfl | rfl <;> rfl
theorem range_get (n t : Nat) (h : t < n) : (Array.range n)[t]! = t := by
  rw [getElem!_pos _ t (by simpa using h)]; simp
/-- The program's stable sort, over a row of its own. -/
theorem sort_row (l : List Ev) (hN : l.length ≤ 1000) (blk cap : Nat) (w : World) (hH : HoldsK (encI l) 8 w blk 0 (Array.range l.length)) (hblk : blk < w.heap.size) :
    Calls Tryd.prog 52 #[.slice (some ⟨blk, 0, none⟩) l.length cap, .func (.func 26) #[] #[]] w fun e w' => e = .returned (.tuple #[]) ∧ ∃ r : Array Nat, PermIn 0 l.length (Array.range l.length) r ∧ SortedIn (prec (lessI l)) 0 l.length r ∧ SWK (encI l) 8 w blk 0 r w' := by
  have C := sortStable_k 8 Tryd.isAgg24 Tryd.sizeOf24 (encI l) (cmpI l) 26 #[] (enters_of Tryd.func26 (by kernel_rfl) rfl) blk 0 cap (Array.range l.length) w ⟨encI_len l, encI_one l, hH, hblk⟩ l.length (by simp) (cmpI_lays l blk 0 _ w) hN (by rw [ltOf_cmpI]; exact lessI_swo l) (fun t ht => range_get _ t ht)
  rw [ltOf_cmpI] at C
  exact C
end Go.Proofs.YthfhfekneahonaaDoor
