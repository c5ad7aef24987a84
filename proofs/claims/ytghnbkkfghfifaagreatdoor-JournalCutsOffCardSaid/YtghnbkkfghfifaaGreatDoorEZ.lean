/- From a row's conditions to what the walks ask; an event that came in. -/
import Derived.Test.YtghnbkkfghfifaaGreatDoorRows
import Derived.Test.YtghnbkkfghfifaaGreatDoorEN
import Derived.Test.YtghnbkkfghfifaaGreatDoorS
import Derived.ProofKit
import Derived.OpenShut
import Derived.Carry
import Derived.Lay
import Derived.HandedShaped
import Derived.LaidMore
namespace Go.Proofs.YtghnbkkfghfifaaGreatDoor.E
open Go.ChangeShapes Go.WideShapes Go.ChangeAt Go.RowKit
set_option linter.unusedVariables false
/-- What a listed variable reads as. -/
theorem laid_at {P : Program} {w : World} : ∀ {laid : List (String × DataW Unit)} {ps : List MemPlace}, DataW.LaidVars P w laid ps → ∀ {n : String} {d : DataW Unit}, (n, d) ∈ laid →
    ∃ g t cs fuel p, P.globalNamed n = some g ∧ (P.globals[g]?).map (·.type) = some t ∧ w.var? P n = some cs ∧ DataW.trod (fun _ => ()) P w 0 (fun _ => true) false fuel t cs.toList = some (d, p)
  | [], _, _, _, _, h => by cases h
  | (n0, d0) :: r, ps, hl, n, d, h => by
    obtain ⟨g, t, cs, fuel, p, q, h1, h2, h3, h4, h5, _⟩ := hl
    rcases List.mem_cons.1 h with e | h
    · cases e; exact ⟨g, t, cs, fuel, p, h1, h2, h3, h4⟩
    · exact laid_at h5 h
theorem g_rows : Tryz.prog.globalNamed "cicerone/event.rows" = some 0 := by kernel_rfl
theorem t_rows : (Tryz.prog.globals[0]?).map (·.type) = some 155 := by kernel_rfl
theorem c61 : Tryz.prog.cellsOf 154 = 6 := by kernel_rfl
theorem c62 : Tryz.prog.cellsOf 155 = 90 := by kernel_rfl
theorem c9 : Tryz.prog.cellsOf 9 = 1 := by kernel_rfl
theorem c4 : Tryz.prog.cellsOf 4 = 1 := by kernel_rfl
theorem c3 : Tryz.prog.cellsOf 3 = 1 := by kernel_rfl
theorem c59 : Tryz.prog.cellsOf 152 = 1 := by kernel_rfl
theorem c22 : Tryz.prog.cellsOf 50 = 1 := by kernel_rfl
theorem one_drop {cs : List Value} {j : Nat} {x : Value} (h : (cs.drop j).take 1 = [x]) : cs[j]? = some x := by
  have := congrArg (fun l : List Value => l[0]?) h
  simpa [List.getElem?_take, List.getElem?_drop] using this
def rowD (r : KRow) : DataW Unit := .agg [.lit (.string r.word), .lit (.bool r.per), .lit (.bool r.item), .lit (.int .i64 r.lo), .lit (.int .i64 r.hi), .lit (.int .i64 r.tx)]
set_option maxRecDepth 100000 in
theorem rows_data : Rows.laid_cicerone_event_rows = DataW.agg (kRows.map rowD) := rfl
theorem kRows_len : kRows.length = 15 := rfl
set_option maxRecDepth 100000 in
theorem row_of {w : World} {fuel : Nat} {cs : List Value} {r : KRow} {p : List MemPlace} (h : DataW.trod (fun _ => ()) Tryz.prog w 0 (fun _ => true) false fuel 154 cs = some (rowD r, p)) :
    cs[0]? = some (.string (bs r.word)) ∧ cs[1]? = some (.bool r.per) ∧ cs[2]? = some (.bool r.item) ∧ cs[3]? = some (.int .i64 r.lo) ∧ cs[4]? = some (.int .i64 r.hi) ∧ cs[5]? = some (.int .i64 r.tx) := by
  obtain ⟨ys, m, _, hx, hl, hn, hf⟩ := DataW.trod_struct Tryz.underlying154 h
  simp only [rowD, Prod.mk.injEq, DataW.agg.injEq] at hx
  match ys, hn with
  | [y0, y1, y2, y3, y4, y5], _ =>
    simp only [List.map_cons, List.map_nil, List.cons.injEq, and_true] at hx
    obtain ⟨⟨e0, e1, e2, e3, e4, e5⟩, _⟩ := hx
    have k0 := hf 0 _ rfl
    have k1 := hf 1 _ rfl
    have k2 := hf 2 _ rfl
    have k3 := hf 3 _ rfl
    have k4 := hf 4 _ rfl
    have k5 := hf 5 _ rfl
    simp only [List.getElem?_cons_zero, List.getElem?_cons_succ] at k0 k1 k2 k3 k4 k5
    obtain ⟨s, q0, r0, _⟩ := DataW.trod_string Tryz.underlying9 k0
    obtain ⟨b1, q1, r1⟩ := DataW.trod_bool Tryz.underlying4 k1
    obtain ⟨b2, q2, r2⟩ := DataW.trod_bool Tryz.underlying4 k2
    obtain ⟨n3, q3, r3, _⟩ := DataW.trod_int Tryz.underlying3 k3
    obtain ⟨n4, q4, r4, _⟩ := DataW.trod_int Tryz.underlying3 k4
    obtain ⟨n5, q5, r5, _⟩ := DataW.trod_int Tryz.underlying152 k5
    rw [r0] at e0
    rw [r1] at e1
    rw [r2] at e2
    rw [r3] at e3
    rw [r4] at e4
    rw [r5] at e5
    simp only [DataW.lit.injEq, Lit.string.injEq, Lit.bool.injEq, Lit.int.injEq, true_and] at e0 e1 e2 e3 e4 e5
    subst e1 e2 e3 e4 e5
    have es : bs r.word = s := by rw [e0]; exact data_bs s
    rw [es]
    exact ⟨one_drop q0, one_drop q1, one_drop q2, one_drop q3, one_drop q4, one_drop q5⟩
theorem rows_of {w : World} {fuel : Nat} {cs : List Value} {p : List MemPlace} (h : DataW.trod (fun _ => ()) Tryz.prog w 0 (fun _ => true) false fuel 155 cs = some (Rows.laid_cicerone_event_rows, p)) (k : Nat) (hk : k < 15) :
    cs[k * 6]? = some (.string (bs (kR k).word)) ∧ cs[k * 6 + 1]? = some (.bool (kR k).per) ∧ cs[k * 6 + 2]? = some (.bool (kR k).item) ∧ cs[k * 6 + 3]? = some (.int .i64 (kR k).lo) ∧ cs[k * 6 + 4]? = some (.int .i64 (kR k).hi) ∧ cs[k * 6 + 5]? = some (.int .i64 (kR k).tx) := by
  obtain ⟨xs, m, _, hx, hl, hn, hel⟩ := DataW.trod_array Tryz.underlying155 h
  rw [rows_data] at hx
  simp only [Prod.mk.injEq, DataW.agg.injEq] at hx
  have he := hel k hk
  rw [c61] at he
  have hxk : xs[k]? = some xs[k] := List.getElem?_eq_getElem (by omega)
  have hd : xs[k].1 = rowD (kR k) := by
    have := congrArg (fun l : List (DataW Unit) => l[k]?) hx.1
    simp only [List.getElem?_map, hxk, Option.map_some] at this
    have hk2 : kRows[k]? = some (kR k) := by
      unfold kR
      rw [List.getD_eq_getElem?_getD, List.getElem?_eq_getElem (by rw [kRows_len]; omega)]; rfl
    rw [hk2] at this
    simp only [Option.map_some, Option.some.injEq] at this
    exact this.symm
  rw [hxk] at he
  obtain ⟨q0, q1, q2, q3, q4, q5⟩ := row_of (p := xs[k].2) (he.trans (by rw [← hd]))
  have up : ∀ j v, j < 6 → ((cs.drop (k * 6)).take 6)[j]? = some v → cs[k * 6 + j]? = some v := fun j v hj hv => by
    rw [List.getElem?_take, if_pos hj, List.getElem?_drop] at hv; exact hv
  exact ⟨up 0 _ (by omega) q0, up 1 _ (by omega) q1, up 2 _ (by omega) q2, up 3 _ (by omega) q3, up 4 _ (by omega) q4, up 5 _ (by omega) q5⟩
theorem tab_data : Rows.laid_internal_strconv_uint64pow10 = (Lib.tabData .u64 Lib.pow10Tab : DataW Unit) := by kernel_rfl
theorem t_tab : (Tryz.prog.globals[1]?).map (·.type) = some 192 := by kernel_rfl
theorem u_tab : Tryz.prog.underlying 192 = some (.array 20 143) := by kernel_rfl
theorem u_u64 : Tryz.prog.underlying 143 = some (.int .u64) := by kernel_rfl
theorem c120 : Tryz.prog.cellsOf 143 = 1 := by kernel_rfl
theorem c135 : Tryz.prog.cellsOf 192 = 20 := by kernel_rfl
theorem max_of (w : World) (h : w.ShapedOpen Tryz.prog) : ∃ m, w.cell? ⟨2, 0, none⟩ = some (.int .i64 m) := Go.Proofs.cell_of_shapedOpen_int (zero := #[.int .i64 0]) (t := 3) h (of_decide_eq_true (by kernel_rfl)) (by kernel_rfl) rfl (by kernel_rfl) (by kernel_rfl) Tryz.underlying3
set_option maxRecDepth 100000 in
theorem lay_of {w : World} {laid : List (String × DataW Unit)} {ps : List MemPlace} (hl : DataW.LaidVars Tryz.prog w laid ps) (h1 : ("cicerone/event.rows", Rows.laid_cicerone_event_rows) ∈ laid) (h2 : ("internal/strconv.uint64pow10", Rows.laid_internal_strconv_uint64pow10) ∈ laid) (hsh : w.ShapedOpen Tryz.prog) (hsz : 7 ≤ w.heap.size) : Lay w := by
  refine ⟨hsz, fun k hk => ?_, max_of w hsh, ?_⟩
  · obtain ⟨g, t, cs, fuel, p, hg, ht, hv, hd⟩ := laid_at hl h1
    obtain rfl := Option.some.inj (g_rows.symm.trans hg)
    obtain rfl := Option.some.inj (t_rows.symm.trans ht)
    have hc := rows_of hd k hk
    have cell : ∀ (i : Nat) (v : Value), cs.toList[i]? = some v → w.cell? ⟨0, i, none⟩ = some v := fun i v hi => by
      rw [World.var?_cell g_rows hv i, ← Array.getElem?_toList]; exact hi
    obtain ⟨q0, q1, q2, q3, q4, q5⟩ := hc
    exact ⟨cell _ _ q0, cell _ _ q1, cell _ _ q2, cell _ _ q3, cell _ _ q4, cell _ _ q5⟩
  · obtain ⟨g, t, cs, fuel, p, hg, ht, hv, hd⟩ := laid_at hl h2
    obtain rfl := Option.some.inj (g_tab.symm.trans hg)
    obtain rfl := Option.some.inj (t_tab.symm.trans ht)
    rw [tab_data] at hd
    have e := Lib.cells_of_tab u_tab u_u64 c120 c135 hd
    unfold Lib.TabIs
    rw [hv, ← e]
set_option maxRecDepth 100000 in
theorem open_ev {H : Type} {enc : TypeId × Value → H} {w : World} {base : Nat} {spare : Nat → Bool} {held : Bool} {r : Reach} {b0 : Nat} {v : Value} {d : DataW H} {p : List MemPlace} (hv : Value.okWide Tryz.prog w r b0 52 v) (h : DataW.Trod enc Tryz.prog w base spare held 52 v d p) :
    ∃ (s : ByteArray) (n a k : Int) (q i : ByteArray) (x : Int) (t : ByteArray), v = .agg #[.string s, .int .i64 n, .int .i64 a, .int .i64 k, .string q, .string i, .int .i64 x, .string t] := by
  obtain ⟨cs, rfl, hsz⟩ := okWide_struct Tryz.underlying52 hv
  obtain ⟨l⟩ := cs
  have hl : l.length = 8 := by rw [show (Array.mk l).size = l.length from rfl] at hsz; rw [hsz]; kernel_rfl
  obtain ⟨fuel, hf⟩ := h
  obtain ⟨ys, m, _, hx, _, hn, hg⟩ := DataW.trod_struct Tryz.underlying52 hf
  match l, hl with
  | [x0, x1, x2, x3, x4, x5, x6, x7], _ =>
    match ys, hn with
    | [y0, y1, y2, y3, y4, y5, y6, y7], _ =>
      have k0 := hg 0 _ rfl
      have k1 := hg 1 _ rfl
      have k2 := hg 2 _ rfl
      have k3 := hg 3 _ rfl
      have k4 := hg 4 _ rfl
      have k5 := hg 5 _ rfl
      have k6 := hg 6 _ rfl
      have k7 := hg 7 _ rfl
      replace k0 : DataW.trod enc Tryz.prog w base spare held m 9 [x0] = some y0 := k0
      replace k1 : DataW.trod enc Tryz.prog w base spare held m 3 [x1] = some y1 := k1
      replace k2 : DataW.trod enc Tryz.prog w base spare held m 3 [x2] = some y2 := k2
      replace k3 : DataW.trod enc Tryz.prog w base spare held m 50 [x3] = some y3 := k3
      replace k4 : DataW.trod enc Tryz.prog w base spare held m 9 [x4] = some y4 := k4
      replace k5 : DataW.trod enc Tryz.prog w base spare held m 9 [x5] = some y5 := k5
      replace k6 : DataW.trod enc Tryz.prog w base spare held m 3 [x6] = some y6 := k6
      replace k7 : DataW.trod enc Tryz.prog w base spare held m 9 [x7] = some y7 := k7
      obtain ⟨s, q0, _, _⟩ := DataW.trod_string Tryz.underlying9 k0
      obtain ⟨n, q1, _, _⟩ := DataW.trod_int Tryz.underlying3 k1
      obtain ⟨a, q2, _, _⟩ := DataW.trod_int Tryz.underlying3 k2
      obtain ⟨k, q3, _, _⟩ := DataW.trod_int Tryz.underlying50 k3
      obtain ⟨q, q4, _, _⟩ := DataW.trod_string Tryz.underlying9 k4
      obtain ⟨i, q5, _, _⟩ := DataW.trod_string Tryz.underlying9 k5
      obtain ⟨x, q6, _, _⟩ := DataW.trod_int Tryz.underlying3 k6
      obtain ⟨t, q7, _, _⟩ := DataW.trod_string Tryz.underlying9 k7
      simp only [List.cons.injEq, and_true] at q0 q1 q2 q3 q4 q5 q6 q7
      subst q0 q1 q2 q3 q4 q5 q6 q7
      exact ⟨s, n, a, k, q, i, x, t, rfl⟩
/-- The plain wrap with the world's shape, and a condition on memory beside it. -/
theorem handed_laid {H : Type} {enc : TypeId × Value → H} {a : Assume} {C : Checked} {os : Os} {f : FuncId} {fn : Func} {s : ChangeSpec} {conds : List PathCond} {apart fresh handsOn again : Bool} {X : World → Array Value → Prop}
    (hX : ∀ (w w' : World) (args : Array Value), w.heap = w'.heap → X w args → X w' args)
    (own : ownKnob C.prog.godebug = none) (started : os.Started) (noInit : C.prog.inits.idxOf? f = none) (hfn : C.prog.funcs[f]? = some fn)
    (witness : ∃ (w : World) (tape : Tape) (i : Input), w.os = os ∧ (w.forCall tape i).Shaped C.prog ∧ i.vars = [] ∧ Input.okWide C.prog (w.forCall tape i) .any w.heap.size f i ∧
      ((s.pre enc C.prog fn conds apart (w.forCall tape i).memory i.args ∧ X (w.forCall tape i).memory i.args) ∧ sizedMet enc C.prog fn (OpenSpec.ofChange s) apart (w.forCall tape i).memory i.args) ∧ a.holds C.prog (lone (Frame.enter C.prog f i.args .normal) [] (w.forCall tape i)))
    (contract : ∀ (W : World) (base : Nat) (args : Array Value) (ds gs : List (DataW H)) (before : List MemPlace),
      (∀ (j : Nat) t v, fn.params[j]? = some t → args[j]? = some v → Value.okWide C.prog W .any base t v) →
      DataW.Whole enc C.prog fn.params.toList s.vars apart W args.toList ds gs before →
      (DataW.weightsEach C.prog (fn.params.toList ++ s.plain.varTypes C.prog) (ds ++ gs)).all (· ≤ reachBytes) = true → X W args → W.ShapedOpen C.prog →
      Calls C.prog f args W fun e W' => ∃ v, e = .returned v ∧ s.post enc C.prog fn apart fresh handsOn again W args v W') :
    ReturnsInHanded a C os f .any (fun w args => (s.pre enc C.prog fn conds apart w args ∧ X w args) ∧ sizedMet enc C.prog fn (OpenSpec.ofChange s) apart w args) (s.post enc C.prog fn apart fresh handsOn again) := by
  refine returnsInHanded_of_calls own started noInit witness ?_
  intro w tape i _ hsh _ hok hpre _
  obtain ⟨_, _, _, fn', hfn', _, _, _, _, hval⟩ := hok
  obtain rfl : fn' = fn := Option.some.inj (hfn'.symm.trans hfn)
  obtain ⟨⟨⟨ds, gs, before, hw, _⟩, hx⟩, hz⟩ := hpre
  refine (contract (w.forCall tape i) w.heap.size i.args ds gs before hval (DataW.Whole.of_heap (w' := w.forCall tape i) (by rfl) hw) (hz.weights hw) (hX _ _ _ (by rfl) hx) hsh).mono fun e W' ⟨v, he, hp⟩ => ?_
  subst he
  exact ChangeSpec.post_blind hp
end Go.Proofs.YtghnbkkfghfifaaGreatDoor.E
