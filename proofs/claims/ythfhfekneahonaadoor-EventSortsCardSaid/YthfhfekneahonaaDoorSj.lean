/- The reference's Sort of events. -/
import Derived.Test.YthfhfekneahonaaDoorSi
import Derived.BigQuiet
import Derived.Deep.CutBlock
namespace Go.Proofs.YthfhfekneahonaaDoor
open Go.RowKit
set_option linter.unusedVariables false
theorem addG (g j : Nat) : (⟨g, 0, none⟩ : Addr).add j = ⟨g, j, none⟩ := by
  unfold Addr.add
  split
  · rename_i h; rw [h]
  · simp
theorem addGo (g o j : Nat) : (⟨g, o, none⟩ : Addr).add j = ⟨g, o + j, none⟩ := by
  unfold Addr.add
  split
  · rename_i h; rw [h]; rfl
  · simp
theorem RSo.at {W w : World} {l : List Ev} {q : Option Addr} {cap : Nat} {ps : List Nat} {g cp : Nat} (h : RSo W l q cap ps g cp w) (j : Nat) (hj : j < ps.length) {s2 : ByteArray} {n2 a2 k2 : Int} {p2 i2 : ByteArray} {v2 : Int} {t2 : ByteArray} (he : l.getD ps[j] zeroE = ⟨s2, n2, a2, k2, p2, i2, v2, t2⟩) : w.cell? ⟨g, j * 8, none⟩ = some (.string s2) ∧ w.cell? ⟨g, j * 8 + 1, none⟩ = some (.int .i64 n2) ∧ w.cell? ⟨g, j * 8 + 2, none⟩ = some (.int .i64 a2) ∧ w.cell? ⟨g, j * 8 + 3, none⟩ = some (.int .i64 k2) ∧ w.cell? ⟨g, j * 8 + 4, none⟩ = some (.string p2) ∧ w.cell? ⟨g, j * 8 + 5, none⟩ = some (.string i2) ∧ w.cell? ⟨g, j * 8 + 6, none⟩ = some (.int .i64 v2) ∧ w.cell? ⟨g, j * 8 + 7, none⟩ = some (.string t2) := by
  have hE := h.elem j hj
  rw [he] at hE
  have c : ∀ m, m < 8 → w.cell? ⟨g, j * 8 + m, none⟩ = (evL ⟨s2, n2, a2, k2, p2, i2, v2, t2⟩)[m]? := fun m hm => by
    have := hE.cell m hm
    rw [addG] at this
    exact this
  exact ⟨c 0 (by decide), c 1 (by decide), c 2 (by decide), c 3 (by decide), c 4 (by decide), c 5 (by decide), c 6 (by decide), c 7 (by decide)⟩
theorem cells_keep {w w' : World} {g : Nat} {xs : List Value} (h : ∀ (j : Nat) u, xs[j]? = some u → w.cell? ((⟨g, 0, none⟩ : Addr).add j) = some u) (he : w'.heap[g]? = w.heap[g]?) : ∀ (j : Nat) u, xs[j]? = some u → w'.cell? ((⟨g, 0, none⟩ : Addr).add j) = some u := by
  intro j u hu
  have := h j u hu
  rw [addG] at this ⊢
  rw [World.cell?_of_block (w := w) (a := ⟨g, j, none⟩) he]
  exact this
theorem one_cells (w : World) (e : Ev) : ∀ (j : Nat) u, (evL e)[j]? = some u → (w.alloc (.cells (evL e).toArray 24)).cell? ((⟨w.heap.size, 0, none⟩ : Addr).add j) = some u := by
  intro j u hu
  rw [addG, cell_blk (heap_alloc_new w _)]
  simpa using hu
set_option maxRecDepth 100000 in
set_option maxHeartbeats 8000000 in
theorem rsort_any (l : List Ev) (hl : l.length ≤ 1000) (bv : Value) (w : World) (hv : Evs w w.heap.size bv l) :
    Calls Tryd.prog 30 #[bv] w fun e w' => ∃ (g cp : Nat) (ps : List Nat), e = .returned (.slice (some ⟨g, 0, none⟩) l.length cp) ∧ Srt l ps ∧ w'.ownsRow w.heap.size 24 8 (.slice (some ⟨g, 0, none⟩) l.length cp) l.length (evsL (pick l ps)) ∧ Below w.heap.size w w' := by
  obtain ⟨i0, hi, hz0, hz1, hz2⟩ := info_parts info24
  have HI := Lib.hid (And.intro hi (And.intro hz0 (And.intro hz1 hz2)))
  obtain ⟨q, cap, rfl⟩ := hv.shape
  have HL := Lib.hid hl
  have hlz : (l.length : Int) ≤ 1000 := by omega
  have O0 := own_lit8 w w.heap.size (Nat.le_refl _)
  have M0 : Hid (RSo w l q cap [] w.heap.size 0 (w.alloc (.cells #[] 24))) := ⟨hv.below ((Below.refl _ _).alloc (Nat.le_refl _) _) (Nat.le_refl _), O0, (Below.refl _ _).alloc (Nat.le_refl _) _⟩
  clear hl hv O0 hi hz0 hz1 hz2
  go_enter Tryd.func30, Tryd.ntmps30
  go_wp2_with fail
  generalize w.alloc _ = wa at M0 ⊢
  go_loopw [3, 4] (fun vo vi wr => ∃ (k : Nat) (ps : List Nat) (g cp : Nat), k ≤ l.length ∧ k ≤ cp ∧ vi = .int .i64 k ∧ vo = .slice (some ⟨g, 0, none⟩) k cp ∧ Hid (ps.length = k) ∧ Hid (SrtTo l k ps) ∧ Hid (RSo w l q cap ps g cp wr)) (fun _ vi _ => l.length - (intOf vi).toNat)
  case atStart => exact ⟨0, [], w.heap.size, 0, by omega, by omega, rfl, rfl, rfl, ⟨List.Perm.refl _, List.Pairwise.nil⟩, M0⟩
  case round =>
    clear M0
    obtain ⟨k, ps, g, cp, hk, hkc, rfl, rfl, HN, HS, M⟩ := hrel
    by_cases hlt : k < l.length
    · have hltz : (k : Int) < (l.length : Int) := by omega
      obtain ⟨ad, rfl, hab, hE⟩ := M.out.ev.at k hlt
      obtain ⟨ev, hev⟩ : ∃ ev, l[k] = ev := ⟨_, rfl⟩
      obtain ⟨s1, n1, a1, k1, p1, i1, v1, t1⟩ := ev
      clear hE
      have XE : Hid (l.getD k zeroE = ⟨s1, n1, a1, k1, p1, i1, v1, t1⟩) := by
        show _ = _
        rw [List.getD_eq_getElem?_getD, List.getElem?_eq_getElem hlt, ← hev]; rfl
      have XC : Hid (∀ wx, RSo w l (some ad) cap ps g cp wx → wx.cell? (ad.add (k * 8)) = some (.string s1) ∧ wx.cell? ⟨(ad.add (k * 8)).block, (ad.add (k * 8)).off + 1, none⟩ = some (.int .i64 n1) ∧ wx.cell? ⟨(ad.add (k * 8)).block, (ad.add (k * 8)).off + 2, none⟩ = some (.int .i64 a1) ∧ wx.cell? ⟨(ad.add (k * 8)).block, (ad.add (k * 8)).off + 3, none⟩ = some (.int .i64 k1) ∧ wx.cell? ⟨(ad.add (k * 8)).block, (ad.add (k * 8)).off + 4, none⟩ = some (.string p1) ∧ wx.cell? ⟨(ad.add (k * 8)).block, (ad.add (k * 8)).off + 5, none⟩ = some (.string i1) ∧ wx.cell? ⟨(ad.add (k * 8)).block, (ad.add (k * 8)).off + 6, none⟩ = some (.int .i64 v1) ∧ wx.cell? ⟨(ad.add (k * 8)).block, (ad.add (k * 8)).off + 7, none⟩ = some (.string t1)) := fun wx hx => by
        obtain ⟨ad', he, _, h⟩ := hx.ev.at k hlt
        injection he with he
        subst he
        rw [hev] at h
        exact h
      clear hev
      go_upto_block 2 with fail
      go_cut [5] (fun s5 wx => ∃ m, s5 = .int .i64 (m : Nat) ∧ m ≤ k ∧ (∀ (t : Nat) (ht : t < ps.length), m ≤ t → lessI l k ps[t] = true) ∧ (∀ (h0 : 0 < m) (h1 : m - 1 < ps.length), lessI l k ps[m - 1] = false) ∧ RSo w l (some ad) cap ps g cp wx)
      case first =>
        go_wp2_with fail
        go_loopw [5] (fun va wr => ∃ m : Nat, va = .int .i64 m ∧ m ≤ k ∧ Hid (∀ (t : Nat) (ht : t < ps.length), m ≤ t → lessI l k ps[t] = true) ∧ Hid (RSo w l (some ad) cap ps g cp wr)) (fun va _ => (intOf va).toNat)
        case atStart => exact ⟨k, rfl, Nat.le_refl _, (fun t ht h => by have := HN.out; omega), M⟩
        case round =>
          clear M
          obtain ⟨m, rfl, hmk, HA, M⟩ := hrel
          by_cases hm0 : 0 < m
          · have hm0z : (0 : Int) < (m : Int) := by omega
            obtain ⟨mm, hmm⟩ : ∃ mm, mm + 1 = m := ⟨m - 1, by omega⟩
            have q1 : IntKind.i64.wrap ((m : Int) - 1) = (mm : Int) := by rw [IntKind.wrap_i64]; omega
            have q2 : (mm : Int) < (k : Int) := by omega
            have q3 : (0 : Int) ≤ (mm : Int) := by omega
            have hmp : mm < ps.length := by have := HN.out; omega
            obtain ⟨ev2, hev2⟩ : ∃ ev, l.getD ps[mm] zeroE = ev := ⟨_, rfl⟩
            obtain ⟨s2, n2, a2, k2, p2, i2, v2, t2⟩ := ev2
            have YC : Hid (∀ wx, RSo w l (some ad) cap ps g cp wx → wx.cell? ⟨g, mm * 8, none⟩ = some (.string s2) ∧ wx.cell? ⟨g, mm * 8 + 1, none⟩ = some (.int .i64 n2) ∧ wx.cell? ⟨g, mm * 8 + 2, none⟩ = some (.int .i64 a2) ∧ wx.cell? ⟨g, mm * 8 + 3, none⟩ = some (.int .i64 k2) ∧ wx.cell? ⟨g, mm * 8 + 4, none⟩ = some (.string p2) ∧ wx.cell? ⟨g, mm * 8 + 5, none⟩ = some (.string i2) ∧ wx.cell? ⟨g, mm * 8 + 6, none⟩ = some (.int .i64 v2) ∧ wx.cell? ⟨g, mm * 8 + 7, none⟩ = some (.string t2)) := fun wx hx => hx.at mm hmp hev2
            have hle : lessI l k ps[mm] = lessK a1 a2 s1 s2 n1 n2 := by
              unfold lessI
              rw [XE.out, hev2]; rfl
            cases hlb : lessI l k ps[mm] with
            | true =>
              have CL' := fun w => less_any s1 n1 a1 k1 p1 i1 v1 t1 s2 n2 a2 k2 p2 i2 v2 t2 w
              rw [← hle, hlb] at CL'
              have CL := Lib.hid CL'
              have HLB : Hid (lessI l k ps[mm] = true) := hlb
              have HMM : Hid (mm + 1 = m) := hmm
              clear CL' hle hev2 hlb hmm
              have H0 : (wr.cell? (ad.add (k * 8)) = some (.string s1) ∧ wr.cell? ⟨(ad.add (k * 8)).block, (ad.add (k * 8)).off + 1, none⟩ = some (.int .i64 n1) ∧ wr.cell? ⟨(ad.add (k * 8)).block, (ad.add (k * 8)).off + 2, none⟩ = some (.int .i64 a1) ∧ wr.cell? ⟨(ad.add (k * 8)).block, (ad.add (k * 8)).off + 3, none⟩ = some (.int .i64 k1) ∧ wr.cell? ⟨(ad.add (k * 8)).block, (ad.add (k * 8)).off + 4, none⟩ = some (.string p1) ∧ wr.cell? ⟨(ad.add (k * 8)).block, (ad.add (k * 8)).off + 5, none⟩ = some (.string i1) ∧ wr.cell? ⟨(ad.add (k * 8)).block, (ad.add (k * 8)).off + 6, none⟩ = some (.int .i64 v1) ∧ wr.cell? ⟨(ad.add (k * 8)).block, (ad.add (k * 8)).off + 7, none⟩ = some (.string t1)) ∧ (wr.cell? ⟨g, mm * 8, none⟩ = some (.string s2) ∧ wr.cell? ⟨g, mm * 8 + 1, none⟩ = some (.int .i64 n2) ∧ wr.cell? ⟨g, mm * 8 + 2, none⟩ = some (.int .i64 a2) ∧ wr.cell? ⟨g, mm * 8 + 3, none⟩ = some (.int .i64 k2) ∧ wr.cell? ⟨g, mm * 8 + 4, none⟩ = some (.string p2) ∧ wr.cell? ⟨g, mm * 8 + 5, none⟩ = some (.string i2) ∧ wr.cell? ⟨g, mm * 8 + 6, none⟩ = some (.int .i64 v2) ∧ wr.cell? ⟨g, mm * 8 + 7, none⟩ = some (.string t2)) ∧ RSo w l (some ad) cap ps g cp wr := ⟨XC.out wr M.out, YC.out wr M.out, M.out⟩
              go_upto_region 6 with fail
              go_region_held3 (fun wx => (wx.cell? (ad.add (k * 8)) = some (.string s1) ∧ wx.cell? ⟨(ad.add (k * 8)).block, (ad.add (k * 8)).off + 1, none⟩ = some (.int .i64 n1) ∧ wx.cell? ⟨(ad.add (k * 8)).block, (ad.add (k * 8)).off + 2, none⟩ = some (.int .i64 a1) ∧ wx.cell? ⟨(ad.add (k * 8)).block, (ad.add (k * 8)).off + 3, none⟩ = some (.int .i64 k1) ∧ wx.cell? ⟨(ad.add (k * 8)).block, (ad.add (k * 8)).off + 4, none⟩ = some (.string p1) ∧ wx.cell? ⟨(ad.add (k * 8)).block, (ad.add (k * 8)).off + 5, none⟩ = some (.string i1) ∧ wx.cell? ⟨(ad.add (k * 8)).block, (ad.add (k * 8)).off + 6, none⟩ = some (.int .i64 v1) ∧ wx.cell? ⟨(ad.add (k * 8)).block, (ad.add (k * 8)).off + 7, none⟩ = some (.string t1)) ∧ (wx.cell? ⟨g, mm * 8, none⟩ = some (.string s2) ∧ wx.cell? ⟨g, mm * 8 + 1, none⟩ = some (.int .i64 n2) ∧ wx.cell? ⟨g, mm * 8 + 2, none⟩ = some (.int .i64 a2) ∧ wx.cell? ⟨g, mm * 8 + 3, none⟩ = some (.int .i64 k2) ∧ wx.cell? ⟨g, mm * 8 + 4, none⟩ = some (.string p2) ∧ wx.cell? ⟨g, mm * 8 + 5, none⟩ = some (.string i2) ∧ wx.cell? ⟨g, mm * 8 + 6, none⟩ = some (.int .i64 v2) ∧ wx.cell? ⟨g, mm * 8 + 7, none⟩ = some (.string t2)) ∧ RSo w l (some ad) cap ps g cp wx)
                ((refine (fun (hx : RSo w l (some ad) cap ps g cp _) => ⟨XC.out _ hx, YC.out _ hx, hx⟩) ?_; first | exact M.out | exact M.out.below ((Below.refl _ _).drew) | exact RSo.below (M.out.below ((Below.refl _ _).drew)) (by assumption)))
                (first | (go_at_call 25; refine (CL.out _).mono ?_; rintro e w9 ⟨rfl, hb9⟩))
              go_wp2_with fail
              have M2 := Lib.hid (‹_ ∧ _ ∧ RSo _ _ _ _ _ _ _ _›).2.2
              have hmm := HMM.out
              go_roundw
              case rel =>
                refine ⟨mm, by first | rfl | go_num | (congr 1; omega), by omega, (fun t ht h => ?_), M2⟩
                by_cases e : t = mm
                · subst e; exact HLB.out
                · exact HA.out t ht (by omega)
              case measure => simp [intOf]; omega
            | false =>
              have CL' := fun w => less_any s1 n1 a1 k1 p1 i1 v1 t1 s2 n2 a2 k2 p2 i2 v2 t2 w
              rw [← hle, hlb] at CL'
              have CL := Lib.hid CL'
              have HLB : Hid (lessI l k ps[mm] = false) := hlb
              have HMM : Hid (mm + 1 = m) := hmm
              clear CL' hle hev2 hlb hmm
              have H0 : (wr.cell? (ad.add (k * 8)) = some (.string s1) ∧ wr.cell? ⟨(ad.add (k * 8)).block, (ad.add (k * 8)).off + 1, none⟩ = some (.int .i64 n1) ∧ wr.cell? ⟨(ad.add (k * 8)).block, (ad.add (k * 8)).off + 2, none⟩ = some (.int .i64 a1) ∧ wr.cell? ⟨(ad.add (k * 8)).block, (ad.add (k * 8)).off + 3, none⟩ = some (.int .i64 k1) ∧ wr.cell? ⟨(ad.add (k * 8)).block, (ad.add (k * 8)).off + 4, none⟩ = some (.string p1) ∧ wr.cell? ⟨(ad.add (k * 8)).block, (ad.add (k * 8)).off + 5, none⟩ = some (.string i1) ∧ wr.cell? ⟨(ad.add (k * 8)).block, (ad.add (k * 8)).off + 6, none⟩ = some (.int .i64 v1) ∧ wr.cell? ⟨(ad.add (k * 8)).block, (ad.add (k * 8)).off + 7, none⟩ = some (.string t1)) ∧ (wr.cell? ⟨g, mm * 8, none⟩ = some (.string s2) ∧ wr.cell? ⟨g, mm * 8 + 1, none⟩ = some (.int .i64 n2) ∧ wr.cell? ⟨g, mm * 8 + 2, none⟩ = some (.int .i64 a2) ∧ wr.cell? ⟨g, mm * 8 + 3, none⟩ = some (.int .i64 k2) ∧ wr.cell? ⟨g, mm * 8 + 4, none⟩ = some (.string p2) ∧ wr.cell? ⟨g, mm * 8 + 5, none⟩ = some (.string i2) ∧ wr.cell? ⟨g, mm * 8 + 6, none⟩ = some (.int .i64 v2) ∧ wr.cell? ⟨g, mm * 8 + 7, none⟩ = some (.string t2)) ∧ RSo w l (some ad) cap ps g cp wr := ⟨XC.out wr M.out, YC.out wr M.out, M.out⟩
              go_upto_region 6 with fail
              go_region_held3 (fun wx => (wx.cell? (ad.add (k * 8)) = some (.string s1) ∧ wx.cell? ⟨(ad.add (k * 8)).block, (ad.add (k * 8)).off + 1, none⟩ = some (.int .i64 n1) ∧ wx.cell? ⟨(ad.add (k * 8)).block, (ad.add (k * 8)).off + 2, none⟩ = some (.int .i64 a1) ∧ wx.cell? ⟨(ad.add (k * 8)).block, (ad.add (k * 8)).off + 3, none⟩ = some (.int .i64 k1) ∧ wx.cell? ⟨(ad.add (k * 8)).block, (ad.add (k * 8)).off + 4, none⟩ = some (.string p1) ∧ wx.cell? ⟨(ad.add (k * 8)).block, (ad.add (k * 8)).off + 5, none⟩ = some (.string i1) ∧ wx.cell? ⟨(ad.add (k * 8)).block, (ad.add (k * 8)).off + 6, none⟩ = some (.int .i64 v1) ∧ wx.cell? ⟨(ad.add (k * 8)).block, (ad.add (k * 8)).off + 7, none⟩ = some (.string t1)) ∧ (wx.cell? ⟨g, mm * 8, none⟩ = some (.string s2) ∧ wx.cell? ⟨g, mm * 8 + 1, none⟩ = some (.int .i64 n2) ∧ wx.cell? ⟨g, mm * 8 + 2, none⟩ = some (.int .i64 a2) ∧ wx.cell? ⟨g, mm * 8 + 3, none⟩ = some (.int .i64 k2) ∧ wx.cell? ⟨g, mm * 8 + 4, none⟩ = some (.string p2) ∧ wx.cell? ⟨g, mm * 8 + 5, none⟩ = some (.string i2) ∧ wx.cell? ⟨g, mm * 8 + 6, none⟩ = some (.int .i64 v2) ∧ wx.cell? ⟨g, mm * 8 + 7, none⟩ = some (.string t2)) ∧ RSo w l (some ad) cap ps g cp wx)
                ((refine (fun (hx : RSo w l (some ad) cap ps g cp _) => ⟨XC.out _ hx, YC.out _ hx, hx⟩) ?_; first | exact M.out | exact M.out.below ((Below.refl _ _).drew) | exact RSo.below (M.out.below ((Below.refl _ _).drew)) (by assumption)))
                (first | (go_at_call 25; refine (CL.out _).mono ?_; rintro e w9 ⟨rfl, hb9⟩))
              go_wp2_with fail
              have M2 := Lib.hid (‹_ ∧ _ ∧ RSo _ _ _ _ _ _ _ _›).2.2
              go_meet
              have hmm := HMM.out
              subst hmm
              exact ⟨mm + 1, by first | rfl | go_num, hmk, HA.out, (fun h0 h1 => HLB.out), M2.out⟩
          · have hm0z : ¬ (0 : Int) < (m : Int) := by omega
            go_upto_region 6 with fail
            refine wp_region_quiet_below (by kernel_rfl) (by kernel_rfl) ?_
            repeat (go_big_quiet_step (fail))
            refine wpQuiet_nil ?_
            intro _ hw'
            obtain ⟨⟨dq, osq⟩, hw''⟩ := hw'
            subst hw''
            have M2 := Lib.hid (M.out.below (below_regrown wr dq osq))
            clear M
            generalize Sort.grow (redrawn wr dq) osq = wq at M2 ⊢
            go_wp2_with fail
            go_meet
            exact ⟨m, rfl, hmk, HA.out, (fun h0 => absurd h0 hm0), M2.out⟩
      case rest =>
        obtain ⟨m, rfl, hmk, HA0, HB0, M1⟩ := hcut
        have HA := Lib.hid HA0
        have HB := Lib.hid HB0
        have M := Lib.hid M1
        clear HA0 HB0 M1
        have hmz : (m : Int) ≤ (k : Int) := by omega
        have hmc : m ≤ cp := by omega
        have hmcz : (m : Int) ≤ (cp : Int) := by omega
        have hm0 : (0 : Int) ≤ (m : Int) := by omega
        have hk0 : (0 : Int) ≤ (k : Int) := by omega
        have hkcz : (k : Int) ≤ (cp : Int) := by omega
        go_upto_region 8 with fail
        obtain ⟨wo, rfl⟩ : ∃ wo : World, wo = wc := ⟨_, rfl⟩
        obtain ⟨H, hH⟩ : ∃ H, wo.heap.size = H := ⟨_, rfl⟩
        have HH := Lib.hid hH
        clear hH
        go_cut [6] (fun s6 wx => ∃ g2 c2, s6 = .slice (some ⟨g2, 0, none⟩) (m + 1) c2 ∧ wx.ownsRow H 24 8 (.slice (some ⟨g2, 0, none⟩) (m + 1) c2) (m + 1) (evsL (pick l (ps.take m ++ [k]))) ∧ Below H wo wx)
        case first =>
          refine wp_region_held_drew (S := (fun wx => wx.cell? (ad.add (k * 8)) = some (.string s1) ∧ wx.cell? ⟨(ad.add (k * 8)).block, (ad.add (k * 8)).off + 1, none⟩ = some (.int .i64 n1) ∧ wx.cell? ⟨(ad.add (k * 8)).block, (ad.add (k * 8)).off + 2, none⟩ = some (.int .i64 a1) ∧ wx.cell? ⟨(ad.add (k * 8)).block, (ad.add (k * 8)).off + 3, none⟩ = some (.int .i64 k1) ∧ wx.cell? ⟨(ad.add (k * 8)).block, (ad.add (k * 8)).off + 4, none⟩ = some (.string p1) ∧ wx.cell? ⟨(ad.add (k * 8)).block, (ad.add (k * 8)).off + 5, none⟩ = some (.string i1) ∧ wx.cell? ⟨(ad.add (k * 8)).block, (ad.add (k * 8)).off + 6, none⟩ = some (.int .i64 v1) ∧ wx.cell? ⟨(ad.add (k * 8)).block, (ad.add (k * 8)).off + 7, none⟩ = some (.string t1))) (by kernel_rfl) (XC.out _ (M.out.below ((Below.refl _ _).drew))) (fun hH => ?_)
          have MB : Hid (∀ wx, Below H wo wx → wx.cell? (ad.add (k * 8)) = some (.string s1) ∧ wx.cell? ⟨(ad.add (k * 8)).block, (ad.add (k * 8)).off + 1, none⟩ = some (.int .i64 n1) ∧ wx.cell? ⟨(ad.add (k * 8)).block, (ad.add (k * 8)).off + 2, none⟩ = some (.int .i64 a1) ∧ wx.cell? ⟨(ad.add (k * 8)).block, (ad.add (k * 8)).off + 3, none⟩ = some (.int .i64 k1) ∧ wx.cell? ⟨(ad.add (k * 8)).block, (ad.add (k * 8)).off + 4, none⟩ = some (.string p1) ∧ wx.cell? ⟨(ad.add (k * 8)).block, (ad.add (k * 8)).off + 5, none⟩ = some (.string i1) ∧ wx.cell? ⟨(ad.add (k * 8)).block, (ad.add (k * 8)).off + 6, none⟩ = some (.int .i64 v1) ∧ wx.cell? ⟨(ad.add (k * 8)).block, (ad.add (k * 8)).off + 7, none⟩ = some (.string t1)) := fun wx hb => by
            have h := XC.out wx (M.out.below (by rw [HH.out]; exact hb))
            exact h
          have B0 : Hid (Below H wo wo.drew) := (Below.refl _ _).drew
          have RW : Hid (∀ wx, Below H wo wx → ∀ (j : Nat) u, (evsL (pick l (ps.take m)))[j]? = some u → wx.cell? ((⟨g, 0, none⟩ : Addr).add j) = some u) := fun wx hb j u hu => by
            have h := (M.out.below (by rw [HH.out]; exact hb)).row
            refine h j u ?_
            have e : pick l ps = pick l (ps.take m) ++ pick l (ps.drop m) := by rw [← pick_app, List.take_append_drop]
            rw [e, evsL_app, List.getElem?_append_left (List.getElem?_eq_some_iff.1 hu).1]
            exact hu
          have LN : Hid ((evsL (pick l (ps.take m))).length = m * 8 ∧ m + 1 ≤ 1001) := by
            have := HN.out
            have := HL.out
            refine ⟨?_, by omega⟩
            rw [evsL_len, pick_len, List.length_take]
            omega
          have HZ : Hid (H ≤ wo.drew.heap.size) := by
            show H ≤ wo.heap.size
            rw [HH.out]; exact Nat.le_refl _
          generalize wo.drew = wq0 at hH B0 HZ ⊢
          refine wpAnyH_take (i := 1) (v := ?_) rfl (by kernel_rfl) (by kernel_rfl) (by kernel_rfl) (fun _ _ _ h => h) (Or.inl ⟨by rfl, ?_⟩) (by assumption) ?_
          rotate_left
          · intro w hSw
            (try dsimp only at hSw)
            go_simp
            (try with_reducible rfl)
          (try simp only [Act.put, List.setIfInBounds_toArray])
          refine wpAnyH_take (i := 2) (v := ?_) rfl (by kernel_rfl) (by kernel_rfl) (by kernel_rfl) (fun _ _ _ h => h) (Or.inl ⟨by rfl, ?_⟩) (by assumption) ?_
          rotate_left
          · intro w hSw
            (try dsimp only at hSw)
            go_simp
            (try with_reducible rfl)
          (try simp only [Act.put])
          refine wpAnyH_take (i := 3) (v := ?_) rfl (by kernel_rfl) (by kernel_rfl) (by kernel_rfl) (fun _ _ _ h => h) (Or.inl ⟨by rfl, ?_⟩) (by assumption) ?_
          rotate_left
          · intro w hSw
            (try dsimp only at hSw)
            go_simp
            (try with_reducible rfl)
          (try simp only [Act.put])
          refine wpAnyH_take (i := 5) (v := ?_) rfl (by kernel_rfl) (by kernel_rfl) (by kernel_rfl) (fun _ _ _ h => h) (Or.inl ⟨by rfl, ?_⟩) (by assumption) ?_
          rotate_left
          · intro w hSw
            (try dsimp only at hSw)
            go_simp
            (try with_reducible rfl)
          (try simp only [Act.put])
          refine wpAnyH_take (i := 6) (v := ?_) rfl (by kernel_rfl) (by kernel_rfl) (by kernel_rfl) (fun _ _ _ h => h) (Or.inl ⟨by rfl, ?_⟩) (by assumption) ?_
          rotate_left
          · intro w hSw
            (try dsimp only at hSw)
            go_simp
            (try with_reducible rfl)
          (try simp only [Act.put])
          refine wpAnyH_take (i := 7) (v := ?_) rfl (by kernel_rfl) (by kernel_rfl) (by kernel_rfl) (fun _ _ _ h => h) (Or.inl ⟨by rfl, ?_⟩) (by assumption) ?_
          rotate_left
          · intro w hSw
            (try dsimp only at hSw)
            go_simp
            (try with_reducible rfl)
          (try simp only [Act.put])
          refine wpAnyH_take (i := 8) (v := ?_) rfl (by kernel_rfl) (by kernel_rfl) (by kernel_rfl) (fun _ _ _ h => h) (Or.inl ⟨by rfl, ?_⟩) (by assumption) ?_
          rotate_left
          · intro w hSw
            (try dsimp only at hSw)
            go_simp
            (try with_reducible rfl)
          (try simp only [Act.put])
          refine wpAnyH_ready (rs := [0, 9]) (by kernel_rfl) (by simp) ?_
          refine AllReadyH.cons rfl (fun K hK => ?_) (AllReadyH.cons rfl (fun K hK => ?_) AllReadyH.nil)
          · go_simp
            have B1 : Hid (Below H wo (wq0.alloc (.cells #[] 24))) := B0.out.alloc HZ.out _
            have N : Hid ((wq0.alloc (.cells #[] 24)).ownsRow H 24 8 (.slice (some ⟨wq0.heap.size, 0, none⟩) 0 0) 0 []) := own_lit8 wq0 H HZ.out
            have HZ1 : Hid (H ≤ (wq0.alloc (.cells #[] 24)).heap.size) := by
              have := HZ.out
              show H ≤ _
              simp; omega
            have GL : Hid (wq0.heap.size < (wq0.alloc (.cells #[] 24)).heap.size) := by
              show _ < _
              simp
            refine hK.out _ _ (MB.out _ B1.out) (fun hH => ?_)
            clear hK K B0 HZ
            (try simp only [Act.put, List.setIfInBounds_toArray, List.set_cons_zero, List.set_cons_succ])
            generalize wq0.alloc _ = wq1 at hH B1 N HZ1 GL ⊢
            generalize wq0.heap.size = gA at N GL ⊢
            have B0 := B1
            have HZ := HZ1
            
            
            clear B1 HZ1
            refine wpAnyH_ready (rs := [4, 9]) (by kernel_rfl) (by simp) ?_
            refine AllReadyH.cons (o := { dst := some 36, op := Op.call { callee := Callee.builtin Builtin.append, args := #[Operand.tmp 32, Operand.tmp 35], argTypes := #[38, 38] }, type := 38, pos := "ref.go:132", after := _, guard := none }) rfl (fun K hK => ?_) (AllReadyH.cons rfl (fun K hK => ?_) AllReadyH.nil)
            · refine step_app rfl (.tmp 32) (.tmp 35) 38 rfl H 24 i0 _ 8 96 Tryd.underlying38 HI.out.1 HI.out.2.1 HI.out.2.2.1 HI.out.2.2.2 rfl (by decide) gA 0 0 [] rfl N.out ⟨g, 0, none⟩ m cp (evsL (pick l (ps.take m))) rfl LN.out.1 (RW.out _ B0.out) (evsL_one _) (by have := LN.out.2; unfold maxLen; omega) (by have := LN.out.2; omega) HZ.out ?_
              intro gA cA wq2 o1 gr hgB1 hgB2
              rw [Nat.zero_add, List.nil_append] at o1
              have B1 : Hid (Below H wo wq2) := B0.out.grown gr HZ.out (fun k hk => by cases hk; exact (own_lt N.out).1)
              have HZ1 : Hid (H ≤ wq2.heap.size) := Nat.le_trans HZ.out gr.size
              have N1 := Lib.hid o1
              clear N gr hgB1 hgB2 o1
              (try rw [Nat.zero_add])
              refine hK.out _ _ (MB.out _ B1.out) (fun hH => ?_)
              clear hK K B0 HZ GL
              (try simp only [Act.put, List.setIfInBounds_toArray, List.set_cons_zero, List.set_cons_succ])
              have B0 := B1
              have HZ := HZ1
              have N := N1
              
              
              clear B1 HZ1 N1
              refine wpAnyH_ready (rs := [9]) (by kernel_rfl) (by simp) ?_
              refine AllReadyH.cons rfl (fun K hK => ?_) AllReadyH.nil
              go_simp
              have B1 : Hid (Below H wo (wq2.alloc (.cells #[.string s1, .int .i64 n1, .int .i64 a1, .int .i64 k1, .string p1, .string i1, .int .i64 v1, .string t1] 24))) := B0.out.alloc HZ.out _
              have X : Hid (∀ (j : Nat) u, (evL ⟨s1, n1, a1, k1, p1, i1, v1, t1⟩)[j]? = some u → (wq2.alloc (.cells #[.string s1, .int .i64 n1, .int .i64 a1, .int .i64 k1, .string p1, .string i1, .int .i64 v1, .string t1] 24)).cell? ((⟨wq2.heap.size, 0, none⟩ : Addr).add j) = some u) := one_cells wq2 ⟨s1, n1, a1, k1, p1, i1, v1, t1⟩
              have HZ1 : Hid (H ≤ (wq2.alloc (.cells #[.string s1, .int .i64 n1, .int .i64 a1, .int .i64 k1, .string p1, .string i1, .int .i64 v1, .string t1] 24)).heap.size) := by
                have := HZ.out
                show H ≤ _
                simp; omega
              have G1 : Hid (H ≤ wq2.heap.size ∧ wq2.heap.size < (wq2.alloc (.cells #[.string s1, .int .i64 n1, .int .i64 a1, .int .i64 k1, .string p1, .string i1, .int .i64 v1, .string t1] 24)).heap.size) := by
                have := HZ.out
                exact ⟨this, by simp⟩
              have N1 : Hid ((wq2.alloc (.cells #[.string s1, .int .i64 n1, .int .i64 a1, .int .i64 k1, .string p1, .string i1, .int .i64 v1, .string t1] 24)).ownsRow H 24 8 (.slice (some ⟨gA, 0, none⟩) m cA) m (evsL (pick l (ps.take m)))) := own_keep N.out (Below.heap_alloc _ _ _ (own_lt N.out).2.1)
              have GN : Hid (wq2.heap.size ≠ gA) := by
                have := (own_lt N.out).2.1
                show _ ≠ _
                omega
              refine hK.out _ _ (MB.out _ B1.out) (fun hH => ?_)
              clear hK K B0 HZ N
              (try simp only [Act.put, List.setIfInBounds_toArray, List.set_cons_zero, List.set_cons_succ])
              generalize wq2.alloc _ = wq3 at hH B1 X HZ1 G1 N1 ⊢
              generalize wq2.heap.size = g1 at X G1 GN ⊢
              have B0 := B1
              have HZ := HZ1
              have N := N1
              clear B1 HZ1 N1
              refine wpAnyH_ready (rs := [10]) (by kernel_rfl) (by simp) ?_
              refine AllReadyH.cons (o := { dst := some 42, op := Op.call { callee := Callee.builtin Builtin.append, args := #[Operand.tmp 36, Operand.tmp 41], argTypes := #[38, 38] }, type := 38, pos := "ref.go:132", after := _, guard := none }) rfl (fun K hK => ?_) AllReadyH.nil
              refine step_app rfl (.tmp 36) (.tmp 41) 38 rfl H 24 i0 _ 8 96 Tryd.underlying38 HI.out.1 HI.out.2.1 HI.out.2.2.1 HI.out.2.2.2 rfl (by decide) gA cA m (evsL (pick l (ps.take m))) rfl N.out ⟨g1, 0, none⟩ 1 1 (evL ⟨s1, n1, a1, k1, p1, i1, v1, t1⟩) rfl rfl X.out (evL_one _) (by have := LN.out.2; unfold maxLen; omega) (by have := LN.out.2; omega) HZ.out ?_
              intro gC cC wq4 o1 gr hgC1 hgC2
              have B1 : Hid (Below H wo wq4) := B0.out.grown gr HZ.out (fun k hk => by cases hk; exact (own_lt N.out).1)
              have eL : evsL (pick l (ps.take m)) ++ evL ⟨s1, n1, a1, k1, p1, i1, v1, t1⟩ = evsL (pick l (ps.take m ++ [k])) := by
                rw [pick_app, evsL_app]
                congr 1
                unfold pick evsL
                simp only [List.map_cons, List.map_nil, List.flatMap_cons, List.flatMap_nil, List.append_nil]
                rw [XE.out]
              rw [eL] at o1
              have N1 := Lib.hid o1
              clear N gr hgC1 hgC2 o1 eL
              refine hK.out _ _ (MB.out _ B1.out) (fun hH => ?_)
              clear hK K B0 HZ X G1
              (try simp only [Act.put, List.setIfInBounds_toArray, List.set_cons_zero, List.set_cons_succ])
              refine wpAnyH_take (i := 11) (oi := { dst := some 6, op := Op.assign (Operand.tmp 42), type := 38, pos := "ref.go:132", after := _, guard := none }) (v := ?_) rfl (by kernel_rfl) (by kernel_rfl) (by kernel_rfl) (fun _ _ _ h => h) (Or.inl ⟨by rfl, ?_⟩) (by assumption) ?_
              rotate_left
              · intro w hSw
                (try dsimp only at hSw)
                go_simp
                (try with_reducible rfl)
              (try simp only [Act.put, List.setIfInBounds_toArray, List.set_cons_zero, List.set_cons_succ])
              refine wpAnyH_done (by kernel_rfl) ?_ _
              clear hH
              go_wp2_with fail
              go_meet
              exact ⟨gC, cC, rfl, N1.out, B1.out⟩
            · go_simp
              have B1 : Hid (Below H wo (wq1.alloc (.cells #[.string s1, .int .i64 n1, .int .i64 a1, .int .i64 k1, .string p1, .string i1, .int .i64 v1, .string t1] 24))) := B0.out.alloc HZ.out _
              have X : Hid (∀ (j : Nat) u, (evL ⟨s1, n1, a1, k1, p1, i1, v1, t1⟩)[j]? = some u → (wq1.alloc (.cells #[.string s1, .int .i64 n1, .int .i64 a1, .int .i64 k1, .string p1, .string i1, .int .i64 v1, .string t1] 24)).cell? ((⟨wq1.heap.size, 0, none⟩ : Addr).add j) = some u) := one_cells wq1 ⟨s1, n1, a1, k1, p1, i1, v1, t1⟩
              have HZ1 : Hid (H ≤ (wq1.alloc (.cells #[.string s1, .int .i64 n1, .int .i64 a1, .int .i64 k1, .string p1, .string i1, .int .i64 v1, .string t1] 24)).heap.size) := by
                have := HZ.out
                show H ≤ _
                simp; omega
              have G1 : Hid (H ≤ wq1.heap.size ∧ wq1.heap.size < (wq1.alloc (.cells #[.string s1, .int .i64 n1, .int .i64 a1, .int .i64 k1, .string p1, .string i1, .int .i64 v1, .string t1] 24)).heap.size) := by
                have := HZ.out
                exact ⟨this, by simp⟩
              have N1 : Hid ((wq1.alloc (.cells #[.string s1, .int .i64 n1, .int .i64 a1, .int .i64 k1, .string p1, .string i1, .int .i64 v1, .string t1] 24)).ownsRow H 24 8 (.slice (some ⟨gA, 0, none⟩) 0 0) 0 []) := own_keep N.out (Below.heap_alloc _ _ _ (own_lt N.out).2.1)
              have GN : Hid (wq1.heap.size ≠ gA) := by
                have := (own_lt N.out).2.1
                show _ ≠ _
                omega
              refine hK.out _ _ (MB.out _ B1.out) (fun hH => ?_)
              clear hK K B0 HZ N
              (try simp only [Act.put, List.setIfInBounds_toArray, List.set_cons_zero, List.set_cons_succ])
              generalize wq1.alloc _ = wq5 at hH B1 X HZ1 G1 N1 ⊢
              generalize wq1.heap.size = g1 at X G1 GN ⊢
              have B0 := B1
              have HZ := HZ1
              have N := N1
              clear B1 HZ1 N1
              refine wpAnyH_ready (rs := [4]) (by kernel_rfl) (by simp) ?_
              refine AllReadyH.cons (o := { dst := some 36, op := Op.call { callee := Callee.builtin Builtin.append, args := #[Operand.tmp 32, Operand.tmp 35], argTypes := #[38, 38] }, type := 38, pos := "ref.go:132", after := _, guard := none }) rfl (fun K hK => ?_) AllReadyH.nil
              refine step_app rfl (.tmp 32) (.tmp 35) 38 rfl H 24 i0 _ 8 96 Tryd.underlying38 HI.out.1 HI.out.2.1 HI.out.2.2.1 HI.out.2.2.2 rfl (by decide) gA 0 0 [] rfl N.out ⟨g, 0, none⟩ m cp (evsL (pick l (ps.take m))) rfl LN.out.1 (RW.out _ B0.out) (evsL_one _) (by have := LN.out.2; unfold maxLen; omega) (by have := LN.out.2; omega) HZ.out ?_
              intro gA cA wq6 o1 gr hgB1 hgB2
              rw [Nat.zero_add, List.nil_append] at o1
              have B1 : Hid (Below H wo wq6) := B0.out.grown gr HZ.out (fun k hk => by cases hk; exact (own_lt N.out).1)
              have HZ1 : Hid (H ≤ wq6.heap.size) := Nat.le_trans HZ.out gr.size
              have X1 : Hid (∀ (j : Nat) u, (evL ⟨s1, n1, a1, k1, p1, i1, v1, t1⟩)[j]? = some u → wq6.cell? ((⟨g1, 0, none⟩ : Addr).add j) = some u) := cells_keep X.out (gr.block g1 G1.out.2 (fun e => GN.out (Option.some.inj e)))
              have G1x : Hid (H ≤ g1 ∧ g1 < wq6.heap.size) := ⟨G1.out.1, Nat.lt_of_lt_of_le G1.out.2 gr.size⟩
              have N1 := Lib.hid o1
              clear N gr hgB1 hgB2 o1
              (try rw [Nat.zero_add])
              refine hK.out _ _ (MB.out _ B1.out) (fun hH => ?_)
              clear hK K B0 HZ X G1 GN
              (try simp only [Act.put, List.setIfInBounds_toArray, List.set_cons_zero, List.set_cons_succ])
              have B0 := B1
              have HZ := HZ1
              have N := N1
              have X := X1
              have G1 := G1x
              clear B1 HZ1 N1 X1 G1x
              refine wpAnyH_ready (rs := [10]) (by kernel_rfl) (by simp) ?_
              refine AllReadyH.cons (o := { dst := some 42, op := Op.call { callee := Callee.builtin Builtin.append, args := #[Operand.tmp 36, Operand.tmp 41], argTypes := #[38, 38] }, type := 38, pos := "ref.go:132", after := _, guard := none }) rfl (fun K hK => ?_) AllReadyH.nil
              refine step_app rfl (.tmp 36) (.tmp 41) 38 rfl H 24 i0 _ 8 96 Tryd.underlying38 HI.out.1 HI.out.2.1 HI.out.2.2.1 HI.out.2.2.2 rfl (by decide) gA cA m (evsL (pick l (ps.take m))) rfl N.out ⟨g1, 0, none⟩ 1 1 (evL ⟨s1, n1, a1, k1, p1, i1, v1, t1⟩) rfl rfl X.out (evL_one _) (by have := LN.out.2; unfold maxLen; omega) (by have := LN.out.2; omega) HZ.out ?_
              intro gC cC wq7 o1 gr hgC1 hgC2
              have B1 : Hid (Below H wo wq7) := B0.out.grown gr HZ.out (fun k hk => by cases hk; exact (own_lt N.out).1)
              have eL : evsL (pick l (ps.take m)) ++ evL ⟨s1, n1, a1, k1, p1, i1, v1, t1⟩ = evsL (pick l (ps.take m ++ [k])) := by
                rw [pick_app, evsL_app]
                congr 1
                unfold pick evsL
                simp only [List.map_cons, List.map_nil, List.flatMap_cons, List.flatMap_nil, List.append_nil]
                rw [XE.out]
              rw [eL] at o1
              have N1 := Lib.hid o1
              clear N gr hgC1 hgC2 o1 eL
              refine hK.out _ _ (MB.out _ B1.out) (fun hH => ?_)
              clear hK K B0 HZ X G1
              (try simp only [Act.put, List.setIfInBounds_toArray, List.set_cons_zero, List.set_cons_succ])
              refine wpAnyH_take (i := 11) (oi := { dst := some 6, op := Op.assign (Operand.tmp 42), type := 38, pos := "ref.go:132", after := _, guard := none }) (v := ?_) rfl (by kernel_rfl) (by kernel_rfl) (by kernel_rfl) (fun _ _ _ h => h) (Or.inl ⟨by rfl, ?_⟩) (by assumption) ?_
              rotate_left
              · intro w hSw
                (try dsimp only at hSw)
                go_simp
                (try with_reducible rfl)
              (try simp only [Act.put, List.setIfInBounds_toArray, List.set_cons_zero, List.set_cons_succ])
              refine wpAnyH_done (by kernel_rfl) ?_ _
              clear hH
              go_wp2_with fail
              go_meet
              exact ⟨gC, cC, rfl, N1.out, B1.out⟩
          · go_simp
            have B1 : Hid (Below H wo (wq0.alloc (.cells #[.string s1, .int .i64 n1, .int .i64 a1, .int .i64 k1, .string p1, .string i1, .int .i64 v1, .string t1] 24))) := B0.out.alloc HZ.out _
            have X : Hid (∀ (j : Nat) u, (evL ⟨s1, n1, a1, k1, p1, i1, v1, t1⟩)[j]? = some u → (wq0.alloc (.cells #[.string s1, .int .i64 n1, .int .i64 a1, .int .i64 k1, .string p1, .string i1, .int .i64 v1, .string t1] 24)).cell? ((⟨wq0.heap.size, 0, none⟩ : Addr).add j) = some u) := one_cells wq0 ⟨s1, n1, a1, k1, p1, i1, v1, t1⟩
            have HZ1 : Hid (H ≤ (wq0.alloc (.cells #[.string s1, .int .i64 n1, .int .i64 a1, .int .i64 k1, .string p1, .string i1, .int .i64 v1, .string t1] 24)).heap.size) := by
              have := HZ.out
              show H ≤ _
              simp; omega
            have G1 : Hid (H ≤ wq0.heap.size ∧ wq0.heap.size < (wq0.alloc (.cells #[.string s1, .int .i64 n1, .int .i64 a1, .int .i64 k1, .string p1, .string i1, .int .i64 v1, .string t1] 24)).heap.size) := by
              have := HZ.out
              exact ⟨this, by simp⟩
            refine hK.out _ _ (MB.out _ B1.out) (fun hH => ?_)
            clear hK K B0 HZ
            (try simp only [Act.put, List.setIfInBounds_toArray, List.set_cons_zero, List.set_cons_succ])
            generalize wq0.alloc _ = wq8 at hH B1 X HZ1 G1  ⊢
            generalize wq0.heap.size = g1 at X G1  ⊢
            have B0 := B1
            have HZ := HZ1
            
            clear B1 HZ1
            refine wpAnyH_ready (rs := [0]) (by kernel_rfl) (by simp) ?_
            refine AllReadyH.cons rfl (fun K hK => ?_) AllReadyH.nil
            go_simp
            have B1 : Hid (Below H wo (wq8.alloc (.cells #[] 24))) := B0.out.alloc HZ.out _
            have N : Hid ((wq8.alloc (.cells #[] 24)).ownsRow H 24 8 (.slice (some ⟨wq8.heap.size, 0, none⟩) 0 0) 0 []) := own_lit8 wq8 H HZ.out
            have HZ1 : Hid (H ≤ (wq8.alloc (.cells #[] 24)).heap.size) := by
              have := HZ.out
              show H ≤ _
              simp; omega
            have X1 : Hid (∀ (j : Nat) u, (evL ⟨s1, n1, a1, k1, p1, i1, v1, t1⟩)[j]? = some u → (wq8.alloc (.cells #[] 24)).cell? ((⟨g1, 0, none⟩ : Addr).add j) = some u) := cells_keep X.out (Below.heap_alloc _ _ _ G1.out.2)
            have G1x : Hid (H ≤ g1 ∧ g1 < (wq8.alloc (.cells #[] 24)).heap.size) := by
              have := G1.out
              exact ⟨this.1, by simp; omega⟩
            have GN : Hid (g1 ≠ wq8.heap.size) := by
              have := G1.out.2
              show g1 ≠ _
              omega
            refine hK.out _ _ (MB.out _ B1.out) (fun hH => ?_)
            clear hK K B0 HZ X G1
            (try simp only [Act.put, List.setIfInBounds_toArray, List.set_cons_zero, List.set_cons_succ])
            generalize wq8.alloc _ = wq9 at hH B1 N HZ1 X1 G1x ⊢
            generalize wq8.heap.size = gA at N GN ⊢
            have B0 := B1
            have HZ := HZ1
            have X := X1
            have G1 := G1x
            clear B1 HZ1 X1 G1x
            refine wpAnyH_ready (rs := [4]) (by kernel_rfl) (by simp) ?_
            refine AllReadyH.cons (o := { dst := some 36, op := Op.call { callee := Callee.builtin Builtin.append, args := #[Operand.tmp 32, Operand.tmp 35], argTypes := #[38, 38] }, type := 38, pos := "ref.go:132", after := _, guard := none }) rfl (fun K hK => ?_) AllReadyH.nil
            refine step_app rfl (.tmp 32) (.tmp 35) 38 rfl H 24 i0 _ 8 96 Tryd.underlying38 HI.out.1 HI.out.2.1 HI.out.2.2.1 HI.out.2.2.2 rfl (by decide) gA 0 0 [] rfl N.out ⟨g, 0, none⟩ m cp (evsL (pick l (ps.take m))) rfl LN.out.1 (RW.out _ B0.out) (evsL_one _) (by have := LN.out.2; unfold maxLen; omega) (by have := LN.out.2; omega) HZ.out ?_
            intro gA cA wq10 o1 gr hgB1 hgB2
            rw [Nat.zero_add, List.nil_append] at o1
            have B1 : Hid (Below H wo wq10) := B0.out.grown gr HZ.out (fun k hk => by cases hk; exact (own_lt N.out).1)
            have HZ1 : Hid (H ≤ wq10.heap.size) := Nat.le_trans HZ.out gr.size
            have X1 : Hid (∀ (j : Nat) u, (evL ⟨s1, n1, a1, k1, p1, i1, v1, t1⟩)[j]? = some u → wq10.cell? ((⟨g1, 0, none⟩ : Addr).add j) = some u) := cells_keep X.out (gr.block g1 G1.out.2 (fun e => GN.out (Option.some.inj e)))
            have G1x : Hid (H ≤ g1 ∧ g1 < wq10.heap.size) := ⟨G1.out.1, Nat.lt_of_lt_of_le G1.out.2 gr.size⟩
            have N1 := Lib.hid o1
            clear N gr hgB1 hgB2 o1
            (try rw [Nat.zero_add])
            refine hK.out _ _ (MB.out _ B1.out) (fun hH => ?_)
            clear hK K B0 HZ X G1 GN
            (try simp only [Act.put, List.setIfInBounds_toArray, List.set_cons_zero, List.set_cons_succ])
            have B0 := B1
            have HZ := HZ1
            have N := N1
            have X := X1
            have G1 := G1x
            clear B1 HZ1 N1 X1 G1x
            refine wpAnyH_ready (rs := [10]) (by kernel_rfl) (by simp) ?_
            refine AllReadyH.cons (o := { dst := some 42, op := Op.call { callee := Callee.builtin Builtin.append, args := #[Operand.tmp 36, Operand.tmp 41], argTypes := #[38, 38] }, type := 38, pos := "ref.go:132", after := _, guard := none }) rfl (fun K hK => ?_) AllReadyH.nil
            refine step_app rfl (.tmp 36) (.tmp 41) 38 rfl H 24 i0 _ 8 96 Tryd.underlying38 HI.out.1 HI.out.2.1 HI.out.2.2.1 HI.out.2.2.2 rfl (by decide) gA cA m (evsL (pick l (ps.take m))) rfl N.out ⟨g1, 0, none⟩ 1 1 (evL ⟨s1, n1, a1, k1, p1, i1, v1, t1⟩) rfl rfl X.out (evL_one _) (by have := LN.out.2; unfold maxLen; omega) (by have := LN.out.2; omega) HZ.out ?_
            intro gC cC wq11 o1 gr hgC1 hgC2
            have B1 : Hid (Below H wo wq11) := B0.out.grown gr HZ.out (fun k hk => by cases hk; exact (own_lt N.out).1)
            have eL : evsL (pick l (ps.take m)) ++ evL ⟨s1, n1, a1, k1, p1, i1, v1, t1⟩ = evsL (pick l (ps.take m ++ [k])) := by
              rw [pick_app, evsL_app]
              congr 1
              unfold pick evsL
              simp only [List.map_cons, List.map_nil, List.flatMap_cons, List.flatMap_nil, List.append_nil]
              rw [XE.out]
            rw [eL] at o1
            have N1 := Lib.hid o1
            clear N gr hgC1 hgC2 o1 eL
            refine hK.out _ _ (MB.out _ B1.out) (fun hH => ?_)
            clear hK K B0 HZ X G1
            (try simp only [Act.put, List.setIfInBounds_toArray, List.set_cons_zero, List.set_cons_succ])
            refine wpAnyH_take (i := 11) (oi := { dst := some 6, op := Op.assign (Operand.tmp 42), type := 38, pos := "ref.go:132", after := _, guard := none }) (v := ?_) rfl (by kernel_rfl) (by kernel_rfl) (by kernel_rfl) (fun _ _ _ h => h) (Or.inl ⟨by rfl, ?_⟩) (by assumption) ?_
            rotate_left
            · intro w hSw
              (try dsimp only at hSw)
              go_simp
              (try with_reducible rfl)
            (try simp only [Act.put, List.setIfInBounds_toArray, List.set_cons_zero, List.set_cons_succ])
            refine wpAnyH_done (by kernel_rfl) ?_ _
            clear hH
            go_wp2_with fail
            go_meet
            exact ⟨gC, cC, rfl, N1.out, B1.out⟩
        case rest =>
          obtain ⟨g2, c2, rfl, o2, b2⟩ := hcut
          have M2 : Hid (RSo w l (some ad) cap ps g cp wc) := M.out.below (by rw [HH.out]; exact b2)
          have O2 := Lib.hid o2
          have HZ : Hid (H ≤ wc.heap.size) := by
            show H ≤ _
            rw [← HH.out]; exact b2.size
          have HWZ : Hid (w.heap.size ≤ H) := by
            show _ ≤ H
            rw [← HH.out]; exact M.out.bw.size
          have SRC : Hid (∀ (j : Nat) u, (evsL (pick l (ps.drop m)))[j]? = some u → wc.cell? ⟨g, m * 8 + j, none⟩ = some u) := fun j u hu => by
            have hlen : (evsL (pick l (ps.take m))).length = m * 8 := by
              have := HN.out
              rw [evsL_len, pick_len, List.length_take]; omega
            have e : pick l ps = pick l (ps.take m) ++ pick l (ps.drop m) := by rw [← pick_app, List.take_append_drop]
            have h := M2.out.row (m * 8 + j) u (by rw [e, evsL_app, List.getElem?_append_right (by omega), hlen, show m * 8 + j - m * 8 = j by omega]; exact hu)
            rw [addG] at h
            exact h
          have LD : Hid ((evsL (pick l (ps.drop m))).length = (k - m) * 8) := by
            show _ = _
            have := HN.out
            rw [evsL_len, pick_len, List.length_drop]; omega
          have EQ : Hid (evsL (pick l (ps.take m ++ [k])) ++ evsL (pick l (ps.drop m)) = evsL (pick l (ps.take m ++ [k] ++ ps.drop m))) := by
            show _ = _
            rw [pick_app l (ps.take m ++ [k]), evsL_app]
          have SNEW : Hid (SrtTo l (k + 1) (ps.take m ++ [k] ++ ps.drop m)) := HS.out.ins m (by have := HN.out; omega) HA.out (fun h0 => HB.out h0 _)
          have LNEW : Hid ((ps.take m ++ [k] ++ ps.drop m).length = k + 1) := SNEW.out.len
          clear o2 b2 M
          by_cases hmcp : m < cp
          · have hmcpz : (m : Int) < (cp : Int) := by omega
            go_wp2_with (at_builtin; refine wpList_append_own _ rfl (.tmp 43) (.tmp 46) 38 rfl H 24 i0 _ 8 96 Tryd.underlying38 HI.out.1 HI.out.2.1 HI.out.2.2.1 HI.out.2.2.2 rfl (by decide) _ (m + 1) _ rfl O2.out ⟨g, m * 8, none⟩ (k - m) (cp - m) (evsL (pick l (ps.drop m))) rfl ?a0 ?b0 ?c0 ?d0 ?e0 ?f0 ?_)
            case a0 => exact LD.out
            case b0 => intro j u hu; rw [addGo]; exact SRC.out j u hu
            case c0 => exact evsL_one _
            case d0 => have := HL.out; unfold maxLen; omega
            case e0 => have := HL.out; omega
            case f0 => exact HZ.out
            intro q0 z0 hown' hgrow' hiff
            obtain ⟨g3, c3, rfl, hg3, hlt3, hc3⟩ := own_shape hown' hiff
            have B3 : Hid (Below H wc z0) := (Below.refl H wc).grown hgrow' HZ.out (fun k hk => by cases hk; exact (own_lt O2.out).1)
            have ek : m + 1 + (k - m) = k + 1 := by omega
            rw [ek] at hown' hc3
            have M3 : Hid (RSo w l (some ad) cap (ps.take m ++ [k] ++ ps.drop m) g3 c3 z0) := by
              refine ⟨M2.out.ev.below B3.out HWZ.out, ?_, M2.out.bw.trans (B3.out.mono HWZ.out)⟩
              have h := own_base hown' HWZ.out
              rw [EQ.out] at h
              have hl := LNEW.out
              rw [hl]
              exact h
            clear hown' hgrow' hiff hg3 hlt3 O2 M2
            rw [ek]
            clear ek
            go_wp2_with fail
            go_roundw
            case rel => exact ⟨k + 1, _, g3, c3, hlt, hc3, by first | rfl | go_num, rfl, LNEW, SNEW, M3⟩
            case measure => simp [intOf]; omega
          · have hmcpz : ¬ (m : Int) < (cp : Int) := by omega
            have hmk2 : m = k := by omega
            have hmc2 : m = cp := by omega
            subst hmk2 hmc2
            go_wp2_with (at_builtin; refine wpList_append_own _ rfl (.tmp 43) (.tmp 46) 38 rfl H 24 i0 _ 8 96 Tryd.underlying38 HI.out.1 HI.out.2.1 HI.out.2.2.1 HI.out.2.2.2 rfl (by decide) _ (m + 1) _ rfl O2.out ⟨g, 0, none⟩ (0) (0) (evsL (pick l (ps.drop m))) rfl ?a0 ?b0 ?c0 ?d0 ?e0 ?f0 ?_)
            case a0 => have := LD.out; simpa using this
            case b0 => intro j u hu; have h1 := (List.getElem?_eq_some_iff.1 hu).1; rw [LD.out] at h1; simp at h1
            case c0 => exact evsL_one _
            case d0 => have := HL.out; unfold maxLen; omega
            case e0 => have := HL.out; omega
            case f0 => exact HZ.out
            intro q0 z0 hown' hgrow' hiff
            obtain ⟨g3, c3, rfl, hg3, hlt3, hc3⟩ := own_shape hown' hiff
            have B3 : Hid (Below H wc z0) := (Below.refl H wc).grown hgrow' HZ.out (fun k hk => by cases hk; exact (own_lt O2.out).1)
            have ek : m + 1 + (0) = m + 1 := by omega
            rw [ek] at hown' hc3
            have M3 : Hid (RSo w l (some ad) cap (ps.take m ++ [m] ++ ps.drop m) g3 c3 z0) := by
              refine ⟨M2.out.ev.below B3.out HWZ.out, ?_, M2.out.bw.trans (B3.out.mono HWZ.out)⟩
              have h := own_base hown' HWZ.out
              rw [EQ.out] at h
              have hl := LNEW.out
              rw [hl]
              exact h
            clear hown' hgrow' hiff hg3 hlt3 O2 M2
            rw [ek]
            clear ek
            go_wp2_with fail
            go_roundw
            case rel => exact ⟨m + 1, _, g3, c3, hlt, hc3, by first | rfl | go_num, rfl, LNEW, SNEW, M3⟩
            case measure => simp [intOf]; omega
    · have hltz : ¬ (k : Int) < (l.length : Int) := by omega
      obtain rfl : k = l.length := by omega
      go_wp2_with fail
      go_ret
      have hn := HN.out
      have m := M.out
      have o := m.own
      rw [hn] at o
      exact ⟨g, cp, rfl, ps, HS.out, o, m.bw⟩
end Go.Proofs.YthfhfekneahonaaDoor
