/- The mark that the sources tell; a clock follows it, and ticks. -/
import Derived.Test.YtmoooeadiminbaaG
namespace Go.Proofs.Ytmoooeadiminbaa
open Go.RowKit Go.Maps
set_option linter.unusedVariables false
theorem inv9 : ∀ key kl, keyOf Try.prog 9 key = some kl → ∃ x, key = encStr x := fun key kl hk => by obtain ⟨x, hx, _⟩ := Maps.keyOf_str Try.underlying9 hk; exact ⟨x, hx⟩
theorem invE : ∀ v y, relem v = some y → ∃ p, v = mkE p := fun v y hv => by
  obtain ⟨a, b, rfl, _⟩ := relem_inv hv
  exact ⟨(a, b), rfl⟩
/-- What a round of the sources has found: the least of the active ones that have come. -/
def Found (k : Ck) (left : Lit → Bool) (m : Int) (some : Bool) : Prop :=
  (∀ s ∈ k.L, left (.string s.name) = false → act k s = true → some = true ∧ m ≤ s.far) ∧ (some = true → ∃ s ∈ k.L, act k s = true ∧ s.far = m)
theorem found_start (k : Ck) : Found k (Maps.has (mapOf k.L)) 0 false := by
  refine ⟨fun s hs hl => ?_, fun h => by simp at h⟩
  rw [has_mapOf] at hl
  cases hg : getK Sr.name s.name k.L with
  | none => exact absurd rfl (getK_none hg s hs)
  | some e => rw [hg] at hl; simp at hl
theorem found_yes {k : Ck} {left : Lit → Bool} {m : Int} (h : Found k left m true) (hl : ∀ kl, left kl = false) : told k = m - k.slack - 1 := by
  obtain ⟨s, h1, h2, rfl⟩ := h.2 rfl
  exact told_some h1 h2 (fun x hx ha => (h.1 x hx (hl _) ha).2)
theorem found_no {k : Ck} {left : Lit → Bool} {m : Int} (h : Found k left m false) (hl : ∀ kl, left kl = false) : told k = -1 :=
  told_none (fun s hs => by
    cases ha : act k s with
    | false => rfl
    | true => have := (h.1 s hs (hl _) ha).1; simp at this)
/-- An entry comes: it is a source. -/
theorem entry_src {L : List Sr} {n : List UInt8} {p : Int × Int} {y : DataW Unit × List MemPlace} (hv : relem (mkE p) = some y) (hat : ∀ zd, (mapOf L).atKey (.string n) zd = y.1) : ∃ s ∈ L, s.name = n ∧ s.far = p.1 ∧ s.last = p.2 := by
  have e : y = (lits p.1 p.2, []) := by
    unfold mkE at hv
    rw [relem_mk] at hv
    exact (Option.some.inj hv).symm
  subst e
  have h := hat .nil
  rw [at_mapOf] at h
  cases hg : getK Sr.name n L with
  | none => rw [hg] at h; simp only at h; unfold lits at h; cases h
  | some s =>
    rw [hg] at h
    obtain ⟨h1, h2⟩ := getK_some hg
    obtain ⟨h3, h4⟩ := lits_inj h
    exact ⟨s, h1, h2, h3, h4⟩
theorem found_pass {k : Ck} (hs : Sorted Sr.name k.L) {left : Lit → Bool} {m : Int} {sm : Bool} (h : Found k left m sm) {s : Sr} (hm : s ∈ k.L) (hn : act k s = true → sm = true ∧ m ≤ s.far) : Found k (fun z => left z && !z.sameKey (.string s.name)) m sm := by
  refine ⟨fun x hx hl ha => ?_, h.2⟩
  simp only [same_eq, Bool.and_eq_false_iff, Bool.not_eq_eq_eq_not, Bool.not_false, decide_eq_true_eq] at hl
  rcases hl with hl | hl
  · exact h.1 x hx hl ha
  · obtain rfl := sorted_inj hs hx hm hl
    exact hn ha
theorem found_take {k : Ck} (hs : Sorted Sr.name k.L) {left : Lit → Bool} {m : Int} {sm : Bool} (h : Found k left m sm) {s : Sr} (hm : s ∈ k.L) (ha : act k s = true) (hn : sm = false ∨ s.far < m) : Found k (fun z => left z && !z.sameKey (.string s.name)) s.far true := by
  refine ⟨fun x hx hl hax => ⟨rfl, ?_⟩, fun _ => ⟨s, hm, ha, rfl⟩⟩
  simp only [same_eq, Bool.and_eq_false_iff, Bool.not_eq_eq_eq_not, Bool.not_false, decide_eq_true_eq] at hl
  rcases hl with hl | hl
  · obtain ⟨h1, h2⟩ := h.1 x hx hl hax
    rcases hn with hn | hn
    · rw [hn] at h1; cases h1
    · omega
  · obtain rfl := sorted_inj hs hx hm hl
    exact Int.le_refl _
set_option maxHeartbeats 1000000 in
set_option maxRecDepth 100000 in
theorem told_any {w : World} {F : Nat → Prop} {c B : Nat} {k : Ck} (h : ClkM w F c B k) :
    Calls Try.prog 24 #[.pointer (some ⟨c, 0, none⟩)] w fun e w' => e = .returned (.int .i64 (told k)) ∧ Below w.heap.size w w' := by
  have hown := h.map
  have hbl := World.ownsMap.lt h.map
  have HH := Lib.hid h
  have c4 := h.self.c 4 rfl
  have hsl := h.ok.slack
  obtain ⟨SL, hSL⟩ : ∃ SL, k.slack = SL := ⟨_, rfl⟩
  rw [hSL] at hsl
  have HSL := Lib.hid hSL
  clear h hSL
  go_enter Try.func24, Try.ntmps24
  go_wp2_with (first
    | (at_range; refine wpList_range_own _ rfl _ 41 rfl 9 46 law9 Try.underlying41 relem B k.L.length (mapOf k.L) rfl hown ?_; intro w0 hrg0 hg0 hs0)
    | fail)
  have HG0 : Hid (Below w.heap.size w w0) := Lib.hid ((Below.refl _ w).grown hg0 (Nat.le_refl _) (fun j hj => by cases hj))
  clear hg0 hs0
  go_frame
  go_loopw [3, 4] (fun lv sv wr => ∃ (left : Lit → Bool) (cnt : Nat) (m : Int) (sm : Bool), lv = .int .i64 m ∧ sv = .bool sm ∧ wr.ranges Try.prog 9 relem B w.heap.size k.L.length (mapOf k.L) left cnt ∧ Hid (Found k left m sm) ∧ Hid (0 ≤ m ∧ m ≤ 1099511627776) ∧ Hid (Below w.heap.size w wr))
    (fun _ _ wr => wr.rangeLeft B w.heap.size)
  case atStart =>
    exact ⟨_, _, 0, false, rfl, rfl, hrg0, found_start k, ⟨by omega, by omega⟩, HG0.out⟩
  case round =>
    obtain ⟨left, cnt, m, sm, rfl, rfl, hrg, HF, HM, HB⟩ := hrel
    go_wp2_with (first
      | (at_next; refine wpList_next_ranges _ rfl _ rfl 9 law9 relem encStr mkE inv9 invE B w.heap.size k.L.length _ _ _ rfl hrg ?_ ?_)
      | fail)
    · intro hc0 hl0
      have HC := Lib.hid (HH.out.below HB.out)
      have c0 := HC.out.self.c 0 rfl
      rw [HSL.out] at c0
      have hm := HM.out
      have w1 : IntKind.i64.wrap (m - SL) = m - SL := wrap_in (by omega) (by omega)
      have w2 : IntKind.i64.wrap (m - SL - 1) = m - SL - 1 := wrap_in (by omega) (by omega)
      cases sm with
      | true =>
        have hE := Lib.hid (found_yes HF.out hl0)
        clear hl0 hrg
        go_wp2_with fail
        go_ret
        exact ⟨by rw [hE.out, HSL.out]; rfl, HB.out⟩
      | false =>
        have hE := Lib.hid (found_no HF.out hl0)
        clear hl0 hrg
        go_wp2_with fail
        go_ret
        exact ⟨by rw [hE.out]; rfl, HB.out⟩
    · intro x pa pb kl yd yp w2 cnt2 hkey hlk hv hat hrg2 hlt hg2 hs2 hen
      obtain ⟨x', ex, rfl, _⟩ := Maps.keyOf_str Try.underlying9 hkey
      obtain rfl : x = x' := encStr_inj ex
      obtain ⟨s, hsm, hsn, hs1, hs2'⟩ := entry_src hv hat
      simp only at hs1 hs2'
      subst hs1 hs2' hsn
      have hB2 : Below w.heap.size w w2 := HB.out.grown hg2 HB.out.size (fun j hj => by cases hj; exact Nat.le_refl _)
      have HB3 : Hid (Below w.heap.size w (w2.alloc (.cells #[.int .i64 s.far, .int .i64 s.last] 46))) := Lib.hid (hB2.alloc hB2.size _)
      have HC3 := Lib.hid (HH.out.below HB3.out)
      have hact := Lib.hid (act_any HC3.out s (by have := HH.out.ok.last s hsm; have := HH.out.ok.now; omega))
      have hfar := HH.out.ok.far s hsm
      have HSM := Lib.hid hsm
      have hrg3 := hrg2.alloc (.cells #[.int .i64 s.far, .int .i64 s.last] 46)
      have hsz2 := hB2.size
      have hpass := Lib.hid (found_pass HH.out.ok.sorted HF.out hsm)
      have htake := Lib.hid (found_take HH.out.ok.sorted HF.out hsm)
      obtain ⟨ac, hac⟩ : ∃ ac, act k s = ac := ⟨_, rfl⟩
      rw [hac] at hact hpass htake
      have hm := HM.out
      obtain ⟨fr, hfr⟩ : ∃ fr, s.far = fr := ⟨_, rfl⟩
      obtain ⟨ls, hls⟩ : ∃ ls, s.last = ls := ⟨_, rfl⟩
      have hen' : (Instr.entry (.pointer (some ⟨w.heap.size, 0, none⟩))).run Try.prog w2 = .ok (.tuple #[encStr s.name, .agg #[.int .i64 fr, .int .i64 ls]]) w2 := by rw [← hfr, ← hls]; exact hen
      rw [hfr] at hfar htake hpass
      simp only [hfr, hls] at hact hrg3 HB3 HC3
      have HFR := Lib.hid hfr
      clear hv hat hs2 hen hsm hB2 hac hfr hls hg2 hkey hlk hrg2
      cases ac with
      | false =>
        go_wp2_with (go_at_call 23; refine (hact.out).mono ?_; rintro e w4 ⟨rfl, hb4⟩)
        have hrg4 := hrg3.kept (grown_below hb4) (by simp) (by simp)
        have HB4 := Lib.hid (HB3.out.trans (hb4.mono HB3.out.size))
        go_wp2_with fail
        go_roundw
        case rel => exact ⟨_, cnt2, m, sm, rfl, rfl, hrg4, hpass.out (fun h => by cases h), hm, HB4.out⟩
        case measure => rw [hrg4.left_eq, hrg.left_eq]; exact hlt
      | true =>
        have hblk := Blk.new w2 [.int .i64 fr, .int .i64 ls] 46
        cases sm with
        | false =>
          go_wp2_with (go_at_call 23; refine (hact.out).mono ?_; rintro e w4 ⟨rfl, hb4⟩; have b0 := (hblk.below hb4 hblk.lt).c 0 rfl; have hrg4 := hrg3.kept (grown_below hb4) (by simp) (by simp); have HB4 := Lib.hid (HB3.out.trans (hb4.mono HB3.out.size)))
          go_roundw
          case rel => exact ⟨_, cnt2, fr, true, rfl, rfl, hrg4, htake.out trivial (.inl trivial), hfar, HB4.out⟩
          case measure => rw [hrg4.left_eq, hrg.left_eq]; exact hlt
        | true =>
          by_cases hn : fr < m
          · have g0 : decide (fr < m) = true := by simpa using hn
            go_wp2_with (go_at_call 23; refine (hact.out).mono ?_; rintro e w4 ⟨rfl, hb4⟩; have b0 := (hblk.below hb4 hblk.lt).c 0 rfl; have hrg4 := hrg3.kept (grown_below hb4) (by simp) (by simp); have HB4 := Lib.hid (HB3.out.trans (hb4.mono HB3.out.size)))
            go_roundw
            case rel => exact ⟨_, cnt2, fr, true, rfl, rfl, hrg4, htake.out trivial (.inr hn), hfar, HB4.out⟩
            case measure => rw [hrg4.left_eq, hrg.left_eq]; exact hlt
          · have g0 : decide (fr < m) = false := by simpa using hn
            go_wp2_with (go_at_call 23; refine (hact.out).mono ?_; rintro e w4 ⟨rfl, hb4⟩; have b0 := (hblk.below hb4 hblk.lt).c 0 rfl; have hrg4 := hrg3.kept (grown_below hb4) (by simp) (by simp); have HB4 := Lib.hid (HB3.out.trans (hb4.mono HB3.out.size)))
            go_roundw
            case rel => exact ⟨_, cnt2, m, true, rfl, rfl, hrg4, hpass.out (fun _ => ⟨trivial, by omega⟩), hm, HB4.out⟩
            case measure => rw [hrg4.left_eq, hrg.left_eq]; exact hlt
end Go.Proofs.Ytmoooeadiminbaa
