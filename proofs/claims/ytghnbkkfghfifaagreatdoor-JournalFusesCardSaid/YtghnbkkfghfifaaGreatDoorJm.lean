/- Events in rows; a journal in memory. -/
import Derived.Test.YtghnbkkfghfifaaGreatDoorMJ
import Derived.Test.YtghnbkkfghfifaaGreatDoorMD
import Derived.Test.YtghnbkkfghfifaaGreatDoorEN
import Derived.Test.YtghnbkkfghfifaaGreatDoorERa
import Derived.Test.YtghnbkkfghfifaaGreatDoorMF
namespace Go.Proofs.YtghnbkkfghfifaaGreatDoor
open Go.RowKit Go.Maps D
set_option linter.unusedVariables false
abbrev Ev := E.Ev
abbrev zeroE : Ev := ⟨⟨#[]⟩, 0, 0, 0, ⟨#[]⟩, ⟨#[]⟩, 0, ⟨#[]⟩⟩
/-- Is it erased? -/
def gone (e : Ev) : Bool := decide (e.s.size = 0)
def pay (e : Ev) : List UInt8 := if e.s.size = 0 then [] else E.encL e
/-- An entry: an event that may be, or one that is erased. -/
def OkE (e : Ev) : Prop := e = zeroE ∨ E.mayB e = true
theorem gone_zero : gone zeroE = true := rfl
theorem may_size {e : Ev} (h : E.mayB e = true) : 1 ≤ e.s.size := by
  unfold E.mayB E.headB E.nameB at h
  simp only [Bool.and_eq_true, decide_eq_true_eq] at h
  exact h.1.1.1.1.1.1.1.1
theorem gone_may {e : Ev} (h : E.mayB e = true) : gone e = false := by have := may_size h; exact decide_eq_false (by omega)
theorem pay_may {e : Ev} (h : E.mayB e = true) : pay e = E.encL e := by have := may_size h; unfold pay; rw [if_neg (by omega)]
theorem pay_zero : pay zeroE = [] := rfl
theorem OkE.isZ {e : Ev} (h : OkE e) (g : gone e = true) : e = zeroE := by
  rcases h with h | h
  · exact h
  · rw [gone_may h] at g; cases g
theorem OkE.isM {e : Ev} (h : OkE e) (g : gone e = false) : E.mayB e = true := by
  rcases h with rfl | h
  · cases g
  · exact h
/-- An event's cells. -/
def evL (e : Ev) : List Value := [.string e.s, .int .i64 e.n, .int .i64 e.a, .int .i64 e.k, .string e.p, .string e.i, .int .i64 e.v, .string e.t]
theorem info52 : (Tryz.prog.info? 52).map (fun i => (i.zero, i.size, i.bytes)) = some (some (.agg #[.string ⟨#[]⟩, .int .i64 0, .int .i64 0, .int .i64 0, .string ⟨#[]⟩, .string ⟨#[]⟩, .int .i64 0, .string ⟨#[]⟩]), 8, 96) := by kernel_rfl
/-- The cells of events, one behind the other. -/
def evsL (es : List Ev) : List Value := es.flatMap evL
theorem evsL_cons (e : Ev) (es : List Ev) : evsL (e :: es) = evL e ++ evsL es := by unfold evsL; rw [List.flatMap_cons]
theorem evsL_app (a b : List Ev) : evsL (a ++ b) = evsL a ++ evsL b := by unfold evsL; rw [List.flatMap_append]
theorem evsL_one' (e : Ev) : evsL [e] = evL e := by unfold evsL; simp
theorem evsL_len : ∀ es : List Ev, (evsL es).length = es.length * 8
  | [] => rfl
  | e :: es => by
    have h8 : (evL e).length = 8 := rfl
    rw [evsL_cons, List.length_append, evsL_len es, h8, List.length_cons]; omega
theorem evsL_get : ∀ (es : List Ev) (i m : Nat) (hi : i < es.length), m < 8 → (evsL es)[i * 8 + m]? = (evL es[i])[m]?
  | e :: es, 0, m, hi, hm => by
    have h8 : (evL e).length = 8 := rfl
    rw [evsL_cons, List.getElem?_append_left (by omega)]; simp
  | e :: es, i + 1, m, hi, hm => by
    have h8 : (evL e).length = 8 := rfl
    rw [evsL_cons, List.getElem?_append_right (by omega), h8, show (i + 1) * 8 + m - 8 = i * 8 + m by omega]
    exact evsL_get es i m (by simpa using hi) hm
theorem evL_one (e : Ev) : ∀ v ∈ evL e, v.oneCell' = true := by
  intro v hv
  simp only [evL, List.mem_cons, List.not_mem_nil, or_false] at hv
  rcases hv with rfl | rfl | rfl | rfl | rfl | rfl | rfl | rfl <;> rfl
theorem evsL_one (es : List Ev) : ∀ v ∈ evsL es, v.oneCell' = true := by
  intro v hv
  unfold evsL at hv
  obtain ⟨e, _, he⟩ := List.mem_flatMap.1 hv
  exact evL_one e v he
theorem add_off (a : Addr) (n : Nat) : (a.add n).off = a.off + n := by unfold Addr.add; split <;> simp_all
theorem add_pos (ad : Addr) (j m : Nat) (hm : 0 < m) : (⟨(ad.add j).block, (ad.add j).off + m, none⟩ : Addr) = ad.add (j + m) := by
  rw [add_block, add_off]
  unfold Addr.add
  rw [if_neg (by omega)]
  simp
theorem ev_cell {w : World} {ad : Addr} {j : Nat} {e : Ev} (h : E.EvIn w ad j e) (m : Nat) (hm : m < 8) : w.cell? (ad.add (j * 8 + m)) = (evL e)[m]? := by
  obtain ⟨c0, c1, c2, c3, c4, c5, c6, c7⟩ := h
  rw [add_pos _ _ _ (by decide)] at c1 c2 c3 c4 c5 c6 c7
  match m, hm with
  | 0, _ => exact c0
  | 1, _ => exact c1
  | 2, _ => exact c2
  | 3, _ => exact c3
  | 4, _ => exact c4
  | 5, _ => exact c5
  | 6, _ => exact c6
  | 7, _ => exact c7
theorem ev_of {w : World} {ad : Addr} {j : Nat} {e : Ev} (h : ∀ m, m < 8 → w.cell? (ad.add (j * 8 + m)) = (evL e)[m]?) : E.EvIn w ad j e := by
  unfold E.EvIn
  rw [add_pos _ _ _ (by decide), add_pos _ _ _ (by decide), add_pos _ _ _ (by decide), add_pos _ _ _ (by decide), add_pos _ _ _ (by decide), add_pos _ _ _ (by decide), add_pos _ _ _ (by decide)]
  exact ⟨h 0 (by decide), h 1 (by decide), h 2 (by decide), h 3 (by decide), h 4 (by decide), h 5 (by decide), h 6 (by decide), h 7 (by decide)⟩
theorem evs_place {es : List Ev} {j : Nat} {u : Value} (h : (evsL es)[j]? = some u) : j / 8 < es.length ∧ j = j / 8 * 8 + j % 8 ∧ j % 8 < 8 := by
  have hj := (List.getElem?_eq_some_iff.1 h).1
  rw [evsL_len] at hj
  omega
theorem evs_cells {w : World} {B : Nat} {ad : Addr} {n cap : Nat} {es : List Ev} (h : E.Evs w B (.slice (some ad) n cap) es) : ∀ (j : Nat) u, (evsL es)[j]? = some u → w.cell? (ad.add j) = some u := by
  intro j u hu
  obtain ⟨h1, h2, h3⟩ := evs_place hu
  rcases h with ⟨_, h⟩ | ⟨ad', cap', hv, hc, hg, hh⟩
  · cases h
  · injection hv with e1 e2 e3
    injection e1 with e1
    subst e1
    rw [h2] at hu ⊢
    rw [ev_cell (hh (j / 8) h1) (j % 8) h3, ← evsL_get es (j / 8) (j % 8) h1 h3]
    exact hu
theorem evs_of {w : World} {B : Nat} {ad : Addr} {cap n : Nat} {es : List Ev} (hn : n = es.length) (hc : es.length ≤ cap) (hB : 0 < es.length → ad.block < B) (h : ∀ (j : Nat) u, (evsL es)[j]? = some u → w.cell? (ad.add j) = some u) : E.Evs w B (.slice (some ad) n cap) es := by
  subst hn
  refine .inr ⟨ad, cap, rfl, hc, hB, fun j hj => ev_of fun m hm => ?_⟩
  have e := evsL_get es j m hj hm
  have h8 : (evL es[j]).length = 8 := rfl
  rw [List.getElem?_eq_getElem (show m < (evL es[j]).length by omega)] at e ⊢
  exact h _ _ e
/-- A row of events. -/
def EvRow (w : World) (base : Nat) (v : Value) (es : List Ev) : Prop := w.ownsRow base 52 8 v es.length (evsL es)
theorem EvRow.len {w : World} {base : Nat} {v : Value} {es : List Ev} (h : EvRow w base v es) : ∃ q cap, v = .slice q es.length cap := by
  rcases h.2 with ⟨hv, h0⟩ | ⟨g, cap, cur, hv, _⟩
  · exact ⟨none, 0, by rw [hv, h0]⟩
  · exact ⟨_, cap, hv⟩
theorem EvRow.evs {w : World} {base : Nat} {v : Value} {es : List Ev} (h : EvRow w base v es) : E.Evs w w.heap.size v es := by
  have hh := h
  rcases h.2 with ⟨hv, h0⟩ | ⟨g, cap, cur, hv, hb, hg, hc, _⟩
  · exact .inl ⟨List.length_eq_zero_iff.1 h0, hv⟩
  · subst hv
    exact evs_of rfl hc (fun _ => lt_of_block hg) (fun j u hu => World.ownsRow.cells hh rfl j u hu)
theorem EvRow.nil (w : World) (base : Nat) : EvRow w base (.slice none 0 0) [] := World.ownsRow_nil w base 52 8
theorem ev_blk {w : World} {base : Nat} {v : Value} {es : List Ev} (h : EvRow w base v es) {g : Nat} (hg : v.ownBlock = some g) : ∃ cur, w.heap[g]? = some (.cells cur 52 (0, 0)) := by
  rcases h.2 with ⟨rfl, _⟩ | ⟨g', cap, cur, rfl, _, hh, _⟩
  · cases hg
  · cases hg; exact ⟨cur, hh⟩
theorem ev_ne {w : World} {base : Nat} {v : Value} {es : List Ev} (h : EvRow w base v es) {b : Nat} {cs : List Value} {t : TypeId} (hb : Blk w b cs t) (ht : t ≠ 52) : v.ownBlock ≠ some b := by
  intro hg
  obtain ⟨cur, hh⟩ := ev_blk h hg
  unfold Blk at hb
  rw [hb] at hh
  cases hh
  exact ht rfl
theorem EvRow.keptF {w w' : World} {G : Nat → Prop} {base : Nat} {v : Value} {l : List Ev} (h : EvRow w base v l) (hk : Kept G w w') (hv : ∀ g, v.ownBlock = some g → ¬ G g) : EvRow w' base v l := by
  obtain ⟨h1, h2⟩ := h
  refine ⟨h1, ?_⟩
  rcases h2 with h2 | ⟨g, cap, cur, e, hg, hh, r⟩
  · exact .inl h2
  · exact .inr ⟨g, cap, cur, e, hg, by rw [hk.block g (lt_of_block hh) (hv g (by rw [e]; rfl))]; exact hh, r⟩
theorem EvRow.kept {w w' : World} {base : Nat} {v : Value} {l : List Ev} {row : Option Nat} (h : EvRow w base v l) (hg : w.grownBy w' row) (hr : ∀ g, v.ownBlock = some g → some g ≠ row) : EvRow w' base v l :=
  World.ownsRow.kept h hg (by
    cases hv : v.ownBlock with
    | none => exact .inl rfl
    | some g => exact .inr (hr g hv))
theorem EvRow.below {w w' : World} {base B : Nat} {v : Value} {l : List Ev} (h : EvRow w base v l) (hb : Below B w w') (hB : w.heap.size ≤ B) : EvRow w' base v l := by
  obtain ⟨h1, h2⟩ := h
  refine ⟨h1, ?_⟩
  rcases h2 with h2 | ⟨g, cap, cur, e, hg, hh, r⟩
  · exact .inl h2
  · exact .inr ⟨g, cap, cur, e, hg, by rw [hb.block g (Nat.lt_of_lt_of_le (lt_of_block hh) hB)]; exact hh, r⟩
theorem EvRow.mono {w : World} {base base' : Nat} {v : Value} {l : List Ev} (h : EvRow w base v l) (hb : base' ≤ base) : EvRow w base' v l := own_base h hb
theorem lay_kept {F : Nat → Prop} {w w' : World} (h : E.Lay w) (hk : Kept F w w') (h7 : ∀ i, F i → 7 ≤ i) : E.Lay w' := h.below (hk.below (B := 7) h.sz (fun i hi => h7 i hi)) (Nat.le_refl _)
/-- A journal in memory. -/
structure LogM (w : World) (F : Nat → Prop) (d l : Nat) (n : List UInt8) (per : Nat) (v : Value) (j : Jn Ev) : Prop where
  self : Blk w l [.pointer (some ⟨d, 0, none⟩), .string (bs n), .int .i64 (per : Int), .int .i64 (j.files : Int), v, .int .i64 (j.lasts : Int), .int .i64 (j.stuck : Int)] 98
  row : EvRow w 0 v j.es
  disk : DiskAt w F d j.dk
  fl : F l
  fg : ∀ g, v.ownBlock = some g → F g
  lay : E.Lay w
  seven : ∀ i, F i → 7 ≤ i
  name : n.length ≤ 24
  per1 : 1 ≤ per ∧ per ≤ 4096
  small : j.es.length ≤ 1048576 ∧ j.files ≤ 1048576 ∧ j.lasts ≤ 1048576
/-- The disk's part. -/
def Foot (F : Nat → Prop) (l : Nat) (v : Value) (i : Nat) : Prop := (F i ∧ i ≠ l) ∧ v.ownBlock ≠ some i
section
variable {w w' : World} {F : Nat → Prop} {d l : Nat} {n : List UInt8} {per : Nat} {v : Value} {j : Jn Ev}
theorem Foot.sub {i : Nat} (h : Foot F l v i) : F i := h.1.1
theorem LogM.sep (h : LogM w F d l n per v j) : DiskAt w (Foot F l v) d j.dk := by
  have h1 := h.disk.not h.self (by decide) (by decide) (by decide)
  rcases h.row.2 with ⟨rfl, _⟩ | ⟨g, cap, cur, rfl, _, hh, _⟩
  · exact h1.mono (fun i hi _ => ⟨hi, by simp [Value.ownBlock]⟩)
  · exact (h1.not hh (by decide) (by decide) (by decide)).mono (fun i hi _ => ⟨hi.1, fun e => hi.2 (by cases e; rfl)⟩)
theorem LogM.glt (h : LogM w F d l n per v j) {g : Nat} (hg : v.ownBlock = some g) : g < w.heap.size := by
  obtain ⟨cur, hh⟩ := ev_blk h.row hg
  exact lt_of_block hh
theorem LogM.free (h : LogM w F d l n per v j) (hF : ∀ i, w.heap.size ≤ i → F i) : ∀ i, w.heap.size ≤ i → Foot F l v i := fun i hi =>
  ⟨⟨hF i hi, by have := h.self.lt; omega⟩, fun e => by have := h.glt e; omega⟩
/-- The disk has turned. -/
theorem LogM.turn (h : LogM w F d l n per v j) {k' : Dk} (hd : DiskAt w' (Foot F l v) d k') (hk : Kept (Foot F l v) w w') : LogM w' F d l n per v ⟨k', j.files, j.es, j.lasts, j.stuck⟩ ∧ Kept F w w' := by
  have hK : Kept F w w' := hk.mono (fun i hi => hi.sub)
  exact ⟨⟨h.self.keptF hk (fun e => e.1.2 rfl), h.row.keptF hk (fun g hg e => e.2 hg), hd.mono (fun i hi _ => hi.sub), h.fl, h.fg, lay_kept h.lay hK h.seven, h.seven, h.name, h.per1, h.small⟩, hK⟩
theorem LogM.below (h : LogM w F d l n per v j) (hb : Below w.heap.size w w') : LogM w' F d l n per v j :=
  ⟨h.self.below hb h.self.lt, h.row.below hb (Nat.le_refl _), h.disk.below hb, h.fl, h.fg, h.lay.next hb, h.seven, h.name, h.per1, h.small⟩
theorem LogM.alloc (h : LogM w F d l n per v j) (o : Obj) : LogM (w.alloc o) F d l n per v j := h.below ((Below.refl _ w).alloc (Nat.le_refl _) o)
theorem LogM.drewN (h : LogM w F d l n per v j) (m : Nat) : LogM (w.drewN m) F d l n per v j := h.below (E.below_drewN (Below.refl _ w) m)
theorem LogM.drew (h : LogM w F d l n per v j) : LogM w.drew F d l n per v j := h.drewN 1
/-- The journal's own cells have turned. -/
theorem LogM.put (h : LogM w F d l n per v j) (hg : w.grownBy w' (some l)) {j' : Jn Ev} (hd : j'.dk = j.dk) (he : j'.es = j.es) (hz : j'.files ≤ 1048576 ∧ j'.lasts ≤ 1048576)
    (hs : Blk w' l [.pointer (some ⟨d, 0, none⟩), .string (bs n), .int .i64 (per : Int), .int .i64 (j'.files : Int), v, .int .i64 (j'.lasts : Int), .int .i64 (j'.stuck : Int)] 98) : LogM w' F d l n per v j' ∧ Kept F w w' := by
  have hK : Kept F w w' := (Kept.refl F w).grown hg (fun i hi => by cases hi; exact .inr h.fl)
  have hk : Kept (fun i => i = l) w w' := (Kept.refl _ w).grown hg (fun i hi => by cases hi; exact .inr rfl)
  refine ⟨⟨hs, ?_, ?_, h.fl, h.fg, lay_kept h.lay hK h.seven, h.seven, h.name, h.per1, by rw [he]; exact h.small.1, hz⟩, hK⟩
  · rw [he]; exact h.row.keptF hk (fun g hg' e => ev_ne h.row h.self (by decide) (by rw [← e]; exact hg'))
  · rw [hd]
    exact (h.sep.far hk (fun i hi _ e => hi.1.2 e)).mono (fun i hi _ => hi.sub)
theorem LogM.stuck (h : LogM w F d l n per v j) (e : Nat) : LogM (w.setCell ⟨l, 6, none⟩ (.int .i64 (e : Int))) F d l n per v ⟨j.dk, j.files, j.es, j.lasts, e⟩ ∧ Kept F w (w.setCell ⟨l, 6, none⟩ (.int .i64 (e : Int))) :=
  h.put (grownBy_set w ⟨l, 6, none⟩ _) rfl rfl h.small.2 (h.self.set 6 _)
theorem LogM.lasts (h : LogM w F d l n per v j) (e : Nat) (he : e ≤ 1048576) : LogM (w.setCell ⟨l, 5, none⟩ (.int .i64 (e : Int))) F d l n per v ⟨j.dk, j.files, j.es, e, j.stuck⟩ ∧ Kept F w (w.setCell ⟨l, 5, none⟩ (.int .i64 (e : Int))) :=
  h.put (grownBy_set w ⟨l, 5, none⟩ _) rfl rfl ⟨h.small.2.1, he⟩ (h.self.set 5 _)
theorem LogM.files (h : LogM w F d l n per v j) (e : Nat) (he : e ≤ 1048576) : LogM (w.setCell ⟨l, 3, none⟩ (.int .i64 (e : Int))) F d l n per v ⟨j.dk, e, j.es, j.lasts, j.stuck⟩ ∧ Kept F w (w.setCell ⟨l, 3, none⟩ (.int .i64 (e : Int))) :=
  h.put (grownBy_set w ⟨l, 3, none⟩ _) rfl rfl ⟨he, h.small.2.2⟩ (h.self.set 3 _)
/-- The row has grown, or turned, and stands in its cell. -/
theorem LogM.row' {w1 : World} (h : LogM w F d l n per v j) (hg : w.grownBy w1 v.ownBlock) {v' : Value} {es' : List Ev} (hr : EvRow w1 0 v' es') (hF : ∀ g, v'.ownBlock = some g → F g) (hz : es'.length ≤ 1048576) :
    LogM (w1.setCell ⟨l, 4, none⟩ v') F d l n per v' ⟨j.dk, j.files, es', j.lasts, j.stuck⟩ ∧ Kept F w (w1.setCell ⟨l, 4, none⟩ v') := by
  have hk1 : Kept F w w1 := (Kept.refl F w).grown hg (fun i hi => .inr (h.fg i hi))
  have hK : Kept F w (w1.setCell ⟨l, 4, none⟩ v') := hk1.set ⟨l, 4, none⟩ v' (.inr h.fl)
  have hb1 : Blk w1 l _ 98 := h.self.kept hg (fun e => ev_ne h.row h.self (by decide) e.symm)
  have hk : Kept (fun i => i = l ∨ v.ownBlock = some i) w (w1.setCell ⟨l, 4, none⟩ v') := ((Kept.refl _ w).grown hg (fun i hi => .inr (.inr hi))).set ⟨l, 4, none⟩ v' (.inr (.inl rfl))
  refine ⟨⟨hb1.set 4 v', ?_, ?_, h.fl, hF, lay_kept h.lay hK h.seven, h.seven, h.name, h.per1, hz, h.small.2⟩, hK⟩
  · exact hr.kept (grownBy_set w1 ⟨l, 4, none⟩ v') (fun g hg' e => ev_ne hr hb1 (by decide) (by rw [hg', Option.some.inj e]))
  · refine (h.sep.far hk (fun i hi _ e => ?_)).mono (fun i hi _ => hi.sub)
    rcases e with e | e
    · exact hi.1.2 e
    · exact hi.2 e
end
end Go.Proofs.YtghnbkkfghfifaaGreatDoor
