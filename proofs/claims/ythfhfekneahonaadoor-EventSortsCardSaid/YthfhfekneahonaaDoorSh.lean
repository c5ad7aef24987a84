/- The program's Sort; Same, the reference's. -/
import Derived.Test.YthfhfekneahonaaDoorSg
import Derived.Deep.QuietTactic
import Derived.Deep.Upon
namespace Go.Proofs.YthfhfekneahonaaDoor
open Go.RowKit
set_option linter.unusedVariables false
theorem cell_blk {w : World} {b : Nat} {cs : Array Value} {t : TypeId} {f : Nat × Nat} (h : w.heap[b]? = some (.cells cs t f)) (j : Nat) : w.cell? ⟨b, j, none⟩ = cs[j]? := by simp [World.cell?, h]
theorem size24 : (Tryd.prog.info? 24).map (·.size) = some 8 := by kernel_rfl
theorem below_setCells (w : World) (B g : Nat) (hB : B ≤ g) (hw : B ≤ w.heap.size) (o : Nat) : ∀ (vs : List Value), Below B w (w.setCells g o vs) := fun vs => by
  have h : ∀ (vs : List Value) (o : Nat) (w : World), Below B w (w.setCells g o vs) := by
    intro vs
    induction vs with
    | nil => intro o w; exact Below.refl B w
    | cons v r ih => intro o w; exact ((Below.refl B w).setCell hB v).trans (ih (o + 1) _)
  exact h vs o w
set_option maxRecDepth 100000 in
set_option maxHeartbeats 1000000 in
theorem psort_any (l : List Ev) (hl : l.length ≤ 1000) (bv : Value) (w : World) (hv : Evs w w.heap.size bv l) :
    Calls Tryd.prog 29 #[bv] w fun e w' => ∃ (g : Nat) (r : Array Nat), e = .returned (.slice (some ⟨g, 0, none⟩) l.length l.length) ∧ Srt l r.toList ∧ r.size = l.length ∧ Go.Sort.HoldsK (encI l) 8 w' g 0 r ∧ w.heap.size ≤ g ∧ g < w'.heap.size ∧ Below w.heap.size w w' := by
  obtain ⟨i0, hi, hz0, hz1, hz2⟩ := info_parts info24
  obtain ⟨q, cap, rfl⟩ := hv.shape
  have e52 : ∀ args w, (callFunc 52 args).run Tryd.prog w = .ok (.enter 52 args) w := enters_of Tryd.func52 (by kernel_rfl) rfl
  have HV := Lib.hid hv
  have HL := Lib.hid hl
  clear hv hl
  go_enter Tryd.func29, Tryd.ntmps29
  go_wp2_with (at_make; refine wpList_make_full _ rfl (.tmp 5) (.tmp 5) 38 rfl w.heap.size 24 i0 _ 8 Tryd.underlying38 hi hz0 hz1 .i64 .i64 _ _ l.length rfl rfl ?_ ?_ ?_ ?_ ?_ ?_)
  · rfl
  · rfl
  · have := HL.out; rw [hz2]; omega
  · have := HL.out; unfold maxLen; omega
  · exact Nat.le_refl _
  intro w1 hown hgr
  have bw := (Below.refl w.heap.size w).grown hgr (Nat.le_refl _) (fun k hk => by cases hk)
  obtain ⟨cur, hcur, hcs⟩ : ∃ cur : Array Value, w1.heap[w.heap.size]? = some (.cells cur 24 (0, 0)) ∧ cur.size = l.length * 8 := by
    obtain ⟨h1, h2⟩ := hown
    rcases h2 with ⟨h0, _⟩ | ⟨g, c, cur, hvv, hg, hh, hc, hm, hs, ht⟩
    · cases h0
    · injection hvv with e1 e2 e3
      injection e1 with e1
      injection e1 with e1
      subst e1 e3
      exact ⟨cur, hh, hs⟩
  have hglt : w.heap.size < w1.heap.size := lt_of_block hcur
  have HV1 : Evs w1 w.heap.size (.slice q l.length cap) l := HV.out.below bw (Nat.le_refl _)
  have HO := Lib.hid (And.intro hcur hcs)
  have HW := Lib.hid HV1
  have HB := Lib.hid bw
  clear hown hgr hcur hcs HV1 bw
  have hrun : Sem.run Tryd.prog (Builtin.copy_ #[38, 38] 3 #[.slice (some ⟨w.heap.size, 0, none⟩) l.length l.length, .slice q l.length cap]) w1 = .ok (goInt l.length) (w1.setCells w.heap.size 0 (evsL l)) := by
    have h := run_copy_k (P := Tryd.prog) w1 38 38 3 24 w.heap.size 0 l.length l.length q l.length cap 8 (evsL l) Tryd.underlying38 size24 (by rw [evsL_len]; simp)
      (fun h0 => by
        have hw := HW.out
        rcases hw with ⟨h1, _⟩ | ⟨ad, c2, hvv, r⟩
        · rw [h1] at h0; simp [evsL] at h0
        · injection hvv with e1 e2 e3
          exact ⟨ad, e1, Evs.cells (B := w.heap.size) (n := l.length) (cap := cap) (by rw [← e1]; exact HW.out)⟩)
      (fun j hj => by
        rw [evsL_len] at hj
        have : j < (cur).size := by have := HO.out.2; omega
        rw [Nat.zero_add, cell_blk HO.out.1, Array.getElem?_eq_getElem this]; rfl)
      (fun j hj => by simp [World.frozen?, HO.out.1]) (evsL_one l)
    simpa using h
  have hH : Go.Sort.HoldsK (encI l) 8 (w1.setCells w.heap.size 0 (evsL l)) w.heap.size 0 (Array.range l.length) := (holds_range (fun j u hu => by
      have hj := (List.getElem?_eq_some_iff.1 hu)
      obtain ⟨hj1, hj2⟩ := hj
      have := World.cell?_setCells_in w.heap.size (evsL l) 0 w1 (fun j hj => by
        rw [evsL_len] at hj
        have h3 : j < (cur).size := by have := HO.out.2; omega
        rw [Nat.zero_add, cell_blk HO.out.1, Array.getElem?_eq_getElem h3]; rfl) j hj1
      rw [Nat.zero_add] at this
      rw [this, hj2]) (fun j hj => by rw [World.frozen?_setCells]; simp [World.frozen?, HO.out.1]))
  have hlt2 : w.heap.size < (w1.setCells w.heap.size 0 (evsL l)).heap.size := Nat.lt_of_lt_of_le hglt (below_setCells w1 w.heap.size w.heap.size (Nat.le_refl _) (by omega) 0 (evsL l)).size
  have C := sort_row l HL.out w.heap.size l.length (w1.setCells w.heap.size 0 (evsL l)) hH hlt2
  have HH := Lib.hid hH
  have HBW2 := Lib.hid hlt2
  clear hH hlt2
  have BW : Below w.heap.size w (w1.setCells w.heap.size 0 (evsL l)) := HB.out.trans (below_setCells w1 w.heap.size w.heap.size (Nat.le_refl _) (by omega) 0 (evsL l))
  have HC := Lib.hid C
  have HBW := Lib.hid BW
  clear C BW
  generalize w1.setCells w.heap.size 0 (evsL l) = w2 at HC HBW hrun HH HBW2
  go_wp2_with fail
  refine HC.out.mono ?_
  rintro e w3 ⟨rfl, r, hp, hs, hswk⟩
  have hsz : r.size = l.length := by have := hp.1; simpa using this
  have hb3 := swk_below hswk w.heap.size (Nat.le_refl _) HBW.out.size
  have fin : ∃ (g : Nat) (r : Array Nat), Ending.returned (.slice (some ⟨w.heap.size, 0, none⟩) l.length l.length) = .returned (.slice (some ⟨g, 0, none⟩) l.length l.length) ∧ Srt l r.toList ∧ r.size = l.length ∧ Go.Sort.HoldsK (encI l) 8 w3 g 0 r ∧ w.heap.size ≤ g ∧ g < w3.heap.size ∧ Below w.heap.size w w3 :=
    ⟨w.heap.size, r, rfl, srt_of hp hs, hsz, hswk.holds HBW2.out HH.out (by rw [hsz]; simp), Nat.le_refl _, hswk.lt HBW2.out, HBW.out.trans (hb3.mono (Nat.le_refl _))⟩
  have HF := Lib.hid fin
  clear fin hp hs hswk hsz hb3
  go_wp2
  go_ret
  exact HF.out
end Go.Proofs.YthfhfekneahonaaDoor
