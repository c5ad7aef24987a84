/- The document's answer: what a file's bytes are. -/
import Derived.Test.YtfkefppabjbbdaaFc
import Derived.Laws.ResultCell
namespace Go.Proofs.Ytfkefppabjbbdaa
open Go.RowKit Go.Maps
set_option linter.unusedVariables false
theorem at_none {n : List UInt8} {L : List Fl} (h : ∀ f ∈ L, f.name ≠ n) : get n L = none := by
  cases hg : get n L with
  | none => rfl
  | some x =>
    obtain ⟨h1, h2⟩ := getK_some hg
    exact absurd h2 (h x h1)
theorem at_some {n : List UInt8} {L : List Fl} (hs : Sorted Fl.name L) {i : Nat} (h : i < L.length) (hn : L[i].name = n) : get n L = some L[i] := by
  subst hn
  exact getK_mem hs (List.getElem_mem h)
theorem old_at {n : List UInt8} {L : List Fl} {x : Fl} (h : get n L = some x) : old n L = x := by unfold old; rw [h]; rfl
theorem old_no {n : List UInt8} {L : List Fl} (h : get n L = none) : old n L = ⟨n, [], 0, false⟩ := by unfold old; rw [h]; rfl
theorem run28 {w : World} {g : Nat} {a b c : Value} (hb : Blk w g [a, b, c] 28) : (loadVar 28 ⟨g, 0, none⟩).run Try.prog w = .ok (.agg #[a, b, c]) w := run_loadVar_row w g 28 28 #[a, b, c] (0, 0) _ hb Try.underlying28 rfl (by kernel_rfl)
theorem ret28t {fn : Func} {p u : Tmp} (h : fn.results = #[.cell p 28, .tmp u]) {tmps : Array Value} {w : World} {g : Nat} {a b c x : Value} (hp : tmps.getD p undef = .pointer (some ⟨g, 0, none⟩)) (hu : tmps.getD u undef = x) (hb : Blk w g [a, b, c] 28) :
    (results fn tmps).run Try.prog w = .ok (.tuple #[.agg #[a, b, c], x]) w := by
  rw [results_cell_tmp h, hp, hu]
  simp only [asAddr, Sem.run_pure, Result.andThen_ok, run28 hb]
/-- The result's cells are written. -/
theorem fin28b {w wf : World} {b0 c base : Nat} {v : Value} {fuse : Int} {down : Bool} {L : List Fl} {z0 z1 z2 : Value} (hb : Blk wf c [z0, z1, z2] 28) (hr : Files wf base v L) (hw : Below b0 w wf) (hc : b0 ≤ c) (hs : w.heap.size = b0) :
    Blk (((wf.setCell ⟨c, 0, none⟩ v).setCell ⟨c, 1, none⟩ (.int .i64 fuse)).setCell ⟨c, 2, none⟩ (.bool down)) c [v, .int .i64 fuse, .bool down] 28 ∧ Files (((wf.setCell ⟨c, 0, none⟩ v).setCell ⟨c, 1, none⟩ (.int .i64 fuse)).setCell ⟨c, 2, none⟩ (.bool down)) base v L ∧
      Below b0 w (((wf.setCell ⟨c, 0, none⟩ v).setCell ⟨c, 1, none⟩ (.int .i64 fuse)).setCell ⟨c, 2, none⟩ (.bool down)) := by
  have hne := files_ne hr hb (by decide)
  have hsz := hw.size
  have g1 := World.ownsRow.kept hr (grownBy_set wf ⟨c, 0, none⟩ v) (.inr hne)
  have g2 := World.ownsRow.kept g1 (grownBy_set _ ⟨c, 1, none⟩ (.int .i64 fuse)) (.inr hne)
  have g3 := World.ownsRow.kept g2 (grownBy_set _ ⟨c, 2, none⟩ (.bool down)) (.inr hne)
  refine ⟨((hb.set 0 _).set 1 _).set 2 _, g3, ?_⟩
  exact ((hw.grown (grownBy_set wf ⟨c, 0, none⟩ v) (by omega) (fun j hj => by cases hj; exact hc)).grown (grownBy_set _ ⟨c, 1, none⟩ (.int .i64 fuse)) (by simp [World.setCell]; omega) (fun j hj => by cases hj; exact hc)).grown (grownBy_set _ ⟨c, 2, none⟩ (.bool down)) (by simp [World.setCell]; omega) (fun j hj => by cases hj; exact hc)
set_option maxRecDepth 100000 in
theorem read_ref {w : World} {base : Nat} {v : Value} {k : Dk} (h : Files w base v k.L) (hl : k.L.length ≤ 1000000) (hs : Sorted Fl.name k.L) (n : List UInt8) :
    Calls Try.prog 15 #[.agg #[v, .int .i64 k.fuse, .bool k.down], .string (bs n)] w fun e w' => e = .returned (.tuple #[.string (bs (readS k n)), .int .i64 (find k n : Nat)]) ∧ Below w.heap.size w w' := by
  obtain ⟨L, fuse, down⟩ := k
  simp only at h hl hs ⊢
  obtain ⟨q, cap, rfl⟩ := h.len
  have hsz := bs_size n
  obtain ⟨N, hN⟩ : ∃ N, n.length = N := ⟨_, rfl⟩
  rw [hN] at hsz
  have HV := Lib.hid h
  have HS := Lib.hid hs
  have HB1 : Hid (Below w.heap.size w (w.alloc (.cells #[.slice q L.length cap, .int .i64 fuse, .bool down] 28))) := Lib.hid ((Below.refl _ w).alloc (Nat.le_refl _) _)
  cases down with
  | true =>
    have h1 : find ⟨L, fuse, true⟩ n = 8 := rfl
    have h2 : readS ⟨L, fuse, true⟩ n = [] := rfl
    rw [h1, h2]
    clear h1 h2 h hs
    go_enter Try.func15, Try.ntmps15
    go_wp2_with fail
    go_ret2
    exact ⟨rfl, HB1.out⟩
  | false =>
    by_cases hb : N < 1 ∨ 64 < N
    · have ha : ask ⟨L, fuse, false⟩ n = 1 := by unfold ask; rw [if_neg (by simp), hN, if_pos hb]
      have h1 : find ⟨L, fuse, false⟩ n = 1 := by unfold find; rw [ha]; rfl
      have h2 : readS ⟨L, fuse, false⟩ n = [] := by unfold readS; rw [h1]; rfl
      rw [h1, h2]
      clear h1 h2 ha h hs hN
      by_cases hb1 : N < 1
      · have g1 : decide ((N : Int) < 1) = true := by simp; omega
        clear hb
        go_enter Try.func15, Try.ntmps15
        go_wp2_with fail
        go_ret2
        exact ⟨rfl, HB1.out⟩
      · have g1 : decide ((N : Int) < 1) = false := by simp; omega
        have g2 : decide ((64 : Int) < (N : Int)) = true := by simp; omega
        clear hb
        go_enter Try.func15, Try.ntmps15
        go_wp2_with fail
        go_ret2
        exact ⟨rfl, HB1.out⟩
    · have g1 : decide ((N : Int) < 1) = false := by simp; omega
      have g2 : decide ((64 : Int) < (N : Int)) = false := by simp; omega
      have ha : ask ⟨L, fuse, false⟩ n = 0 := by unfold ask; rw [if_neg (by simp), hN, if_neg hb]
      have HA := Lib.hid ha
      have hat := at_any (HV.out.alloc (.cells #[.slice q L.length cap, .int .i64 fuse, .bool false] 28)) hl fuse false n
      have hsize : (w.alloc (.cells #[.slice q L.length cap, .int .i64 fuse, .bool false] 28)).heap.size = w.heap.size + 1 := by simp
      have HAT := Lib.hid hat
      have HSI := Lib.hid hsize
      clear ha hb h hs hN hat hsize
      go_enter Try.func15, Try.ntmps15
      go_wp2_with fail
      refine (HAT.out).mono ?_
      rintro e w1 ⟨r, rfl, hr, hb1⟩
      have HVV := (HV.out.alloc (.cells #[.slice q L.length cap, .int .i64 fuse, .bool false] 28)).below hb1 (Nat.le_refl _)
      have HBB := Lib.hid (HB1.out.trans (hb1.mono (by simp)))
      have hcell := (Blk.below (Blk.new w [.slice q L.length cap, .int .i64 fuse, .bool false] 28) hb1 (by simp)).c 0 rfl
      clear hb1
      rcases hr with ⟨rfl, hno⟩ | ⟨i, hi, rfl, hin⟩
      · have hg := at_none hno
        have h1 : find ⟨L, fuse, false⟩ n = 6 := by unfold find; rw [HA.out]; simp only [ne_eq, not_true_eq_false, if_false]; rw [hg]; rfl
        have h2 : readS ⟨L, fuse, false⟩ n = [] := by unfold readS; rw [h1]; rfl
        have HR := Lib.hid (And.intro h1 h2)
        clear h1 h2 hg hno
        go_wp2_with fail
        go_ret2
        exact ⟨by rw [HR.out.1, HR.out.2]; rfl, HBB.out⟩
      · have hg := at_some HS.out hi hin
        have h1 : find ⟨L, fuse, false⟩ n = 0 := by unfold find; rw [HA.out]; simp only [ne_eq, not_true_eq_false, if_false]; rw [hg]; rfl
        have h2 : readS ⟨L, fuse, false⟩ n = L[i].s := by unfold readS; rw [h1]; simp only [ne_eq, not_true_eq_false, if_false]; rw [old_at hg]
        obtain ⟨ad, rfl, hab, -, c0, c1, -, -⟩ := HVV.at i hi
        obtain ⟨f, hf⟩ : ∃ f, L[i] = f := ⟨_, rfl⟩
        rw [hf] at c1
        rw [hf] at h2
        have HR := Lib.hid (And.intro h1 h2)
        have g3 : decide ((i : Int) < 0) = false := by simp
        have g4 : decide ((i : Int) < (L.length : Int)) = true := by simp; omega
        clear h1 h2 hg hin hf c0 HVV
        go_wp2_with fail
        go_ret2
        exact ⟨by rw [HR.out.1, HR.out.2]; rfl, HBB.out⟩
end Go.Proofs.Ytfkefppabjbbdaa
