/- The walk of DiskCopies. -/
import Derived.Test.YtfkefppabjbbdaaLp
namespace Go.Proofs.Ytfkefppabjbbdaa
open Go.RowKit Go.Maps
set_option linter.unusedVariables false
/-- What is in memory: a disk, and the document's. -/
structure QM (w wr : World) (b0 xb d : Nat) (kd kr : Dk) (v : Value) : Prop where
  dk : DiskAt wr (fun i => b0 ≤ i) d kd
  ref : Blk wr xb [v, .int .i64 kr.fuse, .bool kr.down] 28
  row : Files wr 0 v kr.L
  bw : Below b0 w wr
  ne : b0 ≤ xb
def Foot2 (b0 xb : Nat) (v : Value) (i : Nat) : Prop := (b0 ≤ i ∧ i ≠ xb) ∧ v.ownBlock ≠ some i
section
variable {w wr w' : World} {b0 xb d d' : Nat} {kd kd' kr kr' : Dk} {v v' : Value}
theorem QM.below (h : QM w wr b0 xb d kd kr v) (hb : Below wr.heap.size wr w') : QM w w' b0 xb d kd kr v :=
  ⟨h.dk.below hb, h.ref.below hb h.ref.lt, h.row.below hb (Nat.le_refl _), h.bw.trans (hb.mono (by have := h.ref.lt; have := h.ne; omega)), h.ne⟩
theorem sep_row {w : World} {F : Nat → Prop} {d : Nat} {k : Dk} (h : DiskAt w F d k) {base : Nat} {v : Value} {L : List Fl} (hr : Files w base v L) : DiskAt w (fun i => F i ∧ v.ownBlock ≠ some i) d k := by
  rcases hr.2 with ⟨rfl, _⟩ | ⟨g, cap, cur, rfl, _, hh, _⟩
  · exact h.mono (fun i hi _ => ⟨hi, by simp [Value.ownBlock]⟩)
  · exact (h.not hh (by decide) (by decide) (by decide)).mono (fun i hi _ => ⟨hi.1, fun e => hi.2 (by cases e; rfl)⟩)
theorem row_lt {w : World} {base : Nat} {v : Value} {L : List Fl} (hr : Files w base v L) : ∀ g, v.ownBlock = some g → g < w.heap.size := fun g hg => by
  rcases hr.2 with ⟨rfl, _⟩ | ⟨g', cap, cur, rfl, _, hh, _⟩
  · cases hg
  · cases hg
    exact lt_of_block hh
theorem QM.sep (h : QM w wr b0 xb d kd kr v) : DiskAt wr (Foot2 b0 xb v) d kd := sep_row (h.dk.not h.ref (by decide) (by decide) (by decide)) h.row
theorem QM.free (h : QM w wr b0 xb d kd kr v) : ∀ i, wr.heap.size ≤ i → Foot2 b0 xb v i := fun i hi => by
  have h2 := h.ref.lt
  have h3 := h.ne
  exact ⟨⟨by omega, by omega⟩, fun e => by have := row_lt h.row i e; omega⟩
theorem QM.turn (h : QM w wr b0 xb d kd kr v) (hd : DiskAt w' (Foot2 b0 xb v) d kd') (hk : Kept (Foot2 b0 xb v) wr w') : QM w w' b0 xb d kd' kr v :=
  ⟨hd.mono (fun i hi _ => hi.1.1), h.ref.keptF hk (fun hf => hf.1.2 rfl), h.row.keptF hk (fun g hg hf => hf.2 hg),
    h.bw.trans (hk.below (by have := h.ref.lt; have := h.ne; omega) (fun i hi => hi.1.1)), h.ne⟩
theorem QM.refset (h : QM w wr b0 xb d kd kr v) {wq : World} (hb : Below wr.heap.size wr wq) (hr : Files wq 0 v' kr'.L) :
    QM w (((wq.setCell ⟨xb, 0, none⟩ v').setCell ⟨xb, 1, none⟩ (.int .i64 kr'.fuse)).setCell ⟨xb, 2, none⟩ (.bool kr'.down)) b0 xb d kd kr' v' := by
  have h1 := h.below hb
  have hs := h1.ref.lt
  have hne := files_ne hr h1.ref (by decide)
  have hk : Kept (fun i => i = xb) wq (((wq.setCell ⟨xb, 0, none⟩ v').setCell ⟨xb, 1, none⟩ (.int .i64 kr'.fuse)).setCell ⟨xb, 2, none⟩ (.bool kr'.down)) := ((((Kept.refl (fun i => i = xb) wq).set ⟨xb, 0, none⟩ _ (.inr rfl)).set ⟨xb, 1, none⟩ _ (.inr rfl)).set ⟨xb, 2, none⟩ _ (.inr rfl))
  exact ⟨((h1.dk.not h1.ref (by decide) (by decide) (by decide)).far hk (fun i hi _ e => hi.2 e)).mono (fun i hi _ => hi.1), ((h1.ref.set 0 v').set 1 _).set 2 _, hr.keptF hk (fun g hg e => hne (by rw [hg, e])), h1.bw.trans (hk.below (by have := h.ne; omega) (fun i hi => by rw [hi]; exact h.ne)), h.ne⟩
end
set_option maxRecDepth 100000 in
set_option maxHeartbeats 4000000 in
theorem law_copies (v : Value) (l : List Cl) (vm : Value) (more : List Cl) (w : World) (hv : Cls w w.heap.size v l) (hvm : Cls w w.heap.size vm more) :
    Calls Try.prog 9 #[v, vm] w fun e w' => e = .returned (.bool true) ∧ Below w.heap.size w w' := by
  have hlo := Lib.hid (long_any v l w.heap.size w hv (Nat.le_refl _))
  have hlo2 : Hid (∀ w1, Below w.heap.size w w1 → Calls Try.prog 11 #[vm] w1 fun e w' => e = .returned (.bool (longL more)) ∧ Below w1.heap.size w1 w') := Lib.hid (fun w1 hb1 => long_any vm more w.heap.size w1 (hvm.below hb1) hb1.size)
  have haw := Lib.hid awake_any
  have fin : Hid (∀ w3 w4, Below w.heap.size w w3 → Below w3.heap.size w3 w4 → Below w.heap.size w w4) := Lib.hid (fun w3 w4 h3 h4 => h3.trans (h4.mono h3.size))
  cases hL : longL l with
  | true =>
    rw [hL] at hlo
    obtain ⟨q0, cap0, rfl, _⟩ := hv.shape
    obtain ⟨qm, capm, rfl, _⟩ := hvm.shape
    clear hv hvm hL hlo2
    go_enter Try.func9, Try.ntmps9
    go_wp2_with fail
    refine (hlo.out).mono ?_
    rintro e w1 ⟨rfl, hb1⟩
    have HB1 := Lib.hid hb1
    clear hb1
    go_wp2_with fail
    refine (haw.out _).mono ?_
    rintro e w2 ⟨rfl, hb2⟩
    have HB2 := Lib.hid (fin.out _ _ HB1.out hb2)
    clear hb2
    go_wp2_with fail
    go_ret
    exact ⟨rfl, HB2.out⟩
  | false =>
    rw [hL] at hlo
    cases hL2 : longL more with
    | true =>
      rw [hL2] at hlo2
      obtain ⟨q0, cap0, rfl, _⟩ := hv.shape
      obtain ⟨qm, capm, rfl, _⟩ := hvm.shape
      clear hv hvm hL hL2
      go_enter Try.func9, Try.ntmps9
      go_wp2_with fail
      refine (hlo.out).mono ?_
      rintro e w1 ⟨rfl, hb1⟩
      have HB1 := Lib.hid hb1
      clear hb1
      go_wp2_with fail
      refine (hlo2.out _ HB1.out).mono ?_
      rintro e w1' ⟨rfl, hb1'⟩
      have HB1 := Lib.hid (fin.out _ _ HB1.out hb1')
      clear hb1'
      go_wp2_with fail
      refine (haw.out _).mono ?_
      rintro e w2 ⟨rfl, hb2⟩
      have HB2 := Lib.hid (fin.out _ _ HB1.out hb2)
      clear hb2
      go_wp2_with fail
      go_ret
      exact ⟨rfl, HB2.out⟩
    | false =>
      rw [hL2] at hlo2
      have hpl : Hid (∀ w1, Below w.heap.size w w1 → Calls Try.prog 13 #[v] w1 fun e w' => ∃ d q n cap, e = .returned (.tuple #[.pointer (some ⟨d, 0, none⟩), .agg #[.slice q n cap, .int .i64 (playD l).fuse, .bool (playD l).down]]) ∧ DiskAt w' (fun i => w1.heap.size ≤ i) d (playD l) ∧ Files w' 0 (.slice q n cap) (playD l).L ∧ Below w1.heap.size w1 w') :=
        Lib.hid (fun w1 hb1 => play_any v l w1 ((hv.below hb1).up hb1.size) hL)
      obtain ⟨q0, cap0, rfl, _⟩ := hv.shape
      obtain ⟨k, hk⟩ : ∃ k, playD l = k := ⟨_, rfl⟩
      rw [hk] at hpl
      obtain ⟨qm, capm, rfl, _⟩ := hvm.shape
      have hmlen := longL_len hL2
      obtain ⟨M, hM⟩ : ∃ M, more.length = M := ⟨_, rfl⟩
      rw [hM] at hvm hlo2 hmlen
      rw [hM]
      have HVM := Lib.hid hvm
      have HM := Lib.hid hM
      have HL2 := Lib.hid hL2
      clear hv hL hk hvm hM hL2
      go_enter Try.func9, Try.ntmps9
      go_wp2_with fail
      refine (hlo.out).mono ?_
      rintro e w0 ⟨rfl, hb0⟩
      have HB0 := Lib.hid hb0
      clear hb0
      go_wp2_with fail
      refine (hlo2.out _ HB0.out).mono ?_
      rintro e w1 ⟨rfl, hb1⟩
      have HB1 := Lib.hid (fin.out _ _ HB0.out hb1)
      clear hb1 HB0 hlo hlo2
      go_wp2_with fail
      refine (hpl.out _ HB1.out).mono ?_
      rintro e w2 ⟨d, q, n, cap, rfl, hd, hr, hb2⟩
      have HB2 := Lib.hid (fin.out _ _ HB1.out hb2)
      have HD : Hid (DiskAt w2 (fun i => w.heap.size ≤ i) d k) := Lib.hid (hd.mono (fun i hi _ => Nat.le_trans HB1.out.size hi))
      have HR := Lib.hid hr
      clear hd hr hb2 HB1 hpl
      go_upto_region 6 with fail
      have hd3 := HD.out.alloc (.cells #[.slice q n cap, .int .i64 k.fuse, .bool k.down] 28)
      have hr3 := HR.out.alloc (.cells #[.slice q n cap, .int .i64 k.fuse, .bool k.down] 28)
      have hx3 := Blk.new w2 [.slice q n cap, .int .i64 k.fuse, .bool k.down] 28
      have hb3 := HB2.out.alloc HB2.out.size (.cells #[.slice q n cap, .int .i64 k.fuse, .bool k.down] 28)
      obtain ⟨xb, hxb⟩ : ∃ c, w2.heap.size = c := ⟨_, rfl⟩
      have hxw : w.heap.size ≤ xb := by have := HB2.out.size; omega
      rw [hxb] at hx3
      rw [hxb]
      clear HD HR HB2 hxb
      generalize w2.alloc (.cells #[.slice q n cap, .int .i64 k.fuse, .bool k.down] 28) = w3 at hd3 hr3 hx3 hb3 ⊢
      have HXW := Lib.hid hxw
      have HR := Lib.hid hr3
      have HX := Lib.hid hx3
      have HB3 := Lib.hid hb3
      have HD := Lib.hid (hd3.mono (G := fun i => w.heap.size ≤ i ∧ i < w3.heap.size) (fun i hi hl => ⟨hi, hl⟩))
      have hcp := copy_dk hd3
      have HCP := Lib.hid hcp
      clear hd3 hr3 hx3 hb3 hcp hxw
      go_wp2_with fail
      refine (HCP.out).mono ?_
      rintro e w4 ⟨c, rfl, hc4, hb4⟩
      have hc4' := hc4.mono (G := fun i => w3.heap.size ≤ i ∧ i < w4.heap.size) (fun i hi hl => ⟨hi, hl⟩)
      have hX4 := HX.out.below hb4 HX.out.lt
      have hR4 := HR.out.below hb4 (Nat.le_refl _)
      have hd4 := (HD.out.below hb4).mono (G := fun i => w.heap.size ≤ i ∧ (i < w3.heap.size ∨ w4.heap.size ≤ i)) (fun i hi _ => ⟨hi.1, .inl hi.2⟩)
      have hd4' := sep_row (hd4.not hX4 (by decide) (by decide) (by decide)) hR4
      have HXL : Hid (xb < w3.heap.size ∧ (∀ g, Value.ownBlock (.slice q n cap) = some g → g < w3.heap.size) ∧ w3.heap.size ≤ w4.heap.size) := Lib.hid ⟨HX.out.lt, row_lt HR.out, hb4.size⟩
      obtain ⟨Fd, hFd⟩ : ∃ Fd : Nat → Prop, Fd = fun i => ((w.heap.size ≤ i ∧ (i < w3.heap.size ∨ w4.heap.size ≤ i)) ∧ i ≠ xb) ∧ Value.ownBlock (.slice q n cap) ≠ some i := ⟨_, rfl⟩
      rw [← hFd] at hd4'
      have HB4 := Lib.hid (fin.out _ _ HB3.out hb4)
      have HFN : Hid (∀ i, w4.heap.size ≤ i → Fd i) := Lib.hid (fun i hi => by
        obtain ⟨e1, e2, e3⟩ := HXL.out
        rw [hFd]
        exact ⟨⟨⟨by have := HB4.out.size; omega, .inr hi⟩, by omega⟩, fun e => by have := e2 i e; omega⟩)
      have HFW : Hid (∀ i, Fd i → w.heap.size ≤ i) := Lib.hid (fun i hi => by rw [hFd] at hi; exact hi.1.1.1)
      have HFX : Hid (¬ Fd xb ∧ (∀ g, Value.ownBlock (.slice q n cap) = some g → ¬ Fd g) ∧ ∀ i, w3.heap.size ≤ i → i < w4.heap.size → ¬ Fd i) := Lib.hid ⟨fun h => by rw [hFd] at h; exact h.1.2 rfl, fun g hg h => by rw [hFd] at h; exact h.2 hg, fun i h1 h2 h => by rw [hFd] at h; have := h.1.1.2; omega⟩
      have HD4 := Lib.hid hd4'
      have HC4 := Lib.hid hc4'
      have HX4 := Lib.hid hX4
      have HR4 := Lib.hid hR4
      clear hc4 hc4' hb4 hX4 hR4 hd4 hd4' hFd HD HR HX HB3 HCP
      go_wp2_with fail
      go_loopw [34] (fun iv wr => ∃ (i : Nat) (kd : Dk), i ≤ M ∧ iv = .int .i64 i ∧ Hid (DiskAt wr Fd d kd) ∧ Hid (Kept Fd w4 wr)) (fun iv _ => M - (intOf iv).toNat)
      case atStart => exact ⟨0, k, by omega, rfl, HD4, Lib.hid (Kept.refl _ _)⟩
      case round =>
        obtain ⟨i, kd, hi, rfl, HD, HK⟩ := hrel
        by_cases hlt : i < M
        · have hil : i < more.length := by rw [HM.out]; exact hlt
          have HBR : Hid (Below w.heap.size w wr) := Lib.hid (HB4.out.trans (HK.out.below HB4.out.size HFW.out))
          obtain ⟨ad, rfl, hab, hmb, kv, c0, c1, c2, c3, c4, hk⟩ := (HVM.out.below HBR.out).at i hil
          have hsm := longL_some HL2.out hil
          obtain ⟨o, ho⟩ : ∃ o, more[i] = o := ⟨_, rfl⟩
          rw [ho] at c0 c1 c2 c3 hk hsm hmb
          obtain ⟨kind, m, nm, s, keep⟩ := o
          simp only at c0 c1 c2 c3 hk hsm hmb
          obtain ⟨qk, ck, rfl⟩ := hk.len
          obtain ⟨ks, hks⟩ : ∃ ks, keep.length = ks := ⟨_, rfl⟩
          rw [hks] at hk c4 hsm
          go_upto_region 12 with fail
          obtain ⟨oc, hc⟩ : ∃ c, wr.heap.size = c := ⟨_, rfl⟩
          have hDA := HD.out.alloc (.cells #[.int .i64 kind, .int .i64 m, .string (bs nm), .string (bs s), .slice qk ks ck] 41)
          have hKA := HK.out.alloc (.cells #[.int .i64 kind, .int .i64 m, .string (bs nm), .string (bs s), .slice qk ks ck] 41)
          have hCA : Blk (wr.alloc (.cells #[.int .i64 kind, .int .i64 m, .string (bs nm), .string (bs s), .slice qk ks ck] 41)) oc [.int .i64 kind, .int .i64 m, .string (bs nm), .string (bs s), .slice qk ks ck] 41 := Blk.at hc.symm [_, _, _, _, _] 41
          have hIA := hk.below ((Below.refl _ wr).alloc (Nat.le_refl _) (.cells #[.int .i64 kind, .int .i64 m, .string (bs nm), .string (bs s), .slice qk ks ck] 41))
          have HSM := Lib.hid hsm
          have HMB := Lib.hid hmb
          have HKS := Lib.hid hks
          rw [hc]
          clear HD HK HBR c0 c1 c2 c3 c4 hk ho hil hab hc hsm hmb hks
          generalize wr.alloc (.cells #[.int .i64 kind, .int .i64 m, .string (bs nm), .string (bs s), .slice qk ks ck] 41) = wa at hDA hKA hCA hIA ⊢
          have HFA : Hid (∀ i, wa.heap.size ≤ i → Fd i) := Lib.hid (fun i hi => HFN.out i (Nat.le_trans hKA.size hi))
          have HDA := Lib.hid hDA
          have HKA := Lib.hid hKA
          have HIA := Lib.hid hIA
          have c0 := hCA.c 0 rfl
          have c1 := hCA.c 1 rfl
          have c2 := hCA.c 2 rfl
          have c3 := hCA.c 3 rfl
          have c4 := hCA.c 4 rfl
          clear hDA hKA hCA hIA
          by_cases h1 : kind = 1
          · subst h1
            go_wp2_with fail
            refine (do_any HFA.out HDA.out 1 m nm s (by have := HSM.out; omega) (by have := HSM.out; omega) qk ks ck).mono ?_
            rintro e wb ⟨rfl, hdb, hkb⟩
            have HDB := Lib.hid hdb
            have HKB := Lib.hid (HKA.out.trans hkb)
            clear hdb hkb c0 c1 c2 c3 c4
            go_wp2_with fail
            go_roundw
            case rel => exact ⟨i + 1, _, by omega, by simp, HDB, HKB⟩
            case measure => simp only [intOf]; omega
          by_cases h2 : kind = 2
          · subst h2
            clear h1
            go_wp2_with fail
            refine (do_any HFA.out HDA.out 2 m nm s (by have := HSM.out; omega) (by have := HSM.out; omega) qk ks ck).mono ?_
            rintro e wb ⟨rfl, hdb, hkb⟩
            have HDB := Lib.hid hdb
            have HKB := Lib.hid (HKA.out.trans hkb)
            clear hdb hkb c0 c1 c2 c3 c4
            go_wp2_with fail
            go_roundw
            case rel => exact ⟨i + 1, _, by omega, by simp, HDB, HKB⟩
            case measure => simp only [intOf]; omega
          by_cases h3 : kind = 3
          · subst h3
            clear h1 h2
            go_wp2_with fail
            refine (do_any HFA.out HDA.out 3 m nm s (by have := HSM.out; omega) (by have := HSM.out; omega) qk ks ck).mono ?_
            rintro e wb ⟨rfl, hdb, hkb⟩
            have HDB := Lib.hid hdb
            have HKB := Lib.hid (HKA.out.trans hkb)
            clear hdb hkb c0 c1 c2 c3 c4
            go_wp2_with fail
            go_roundw
            case rel => exact ⟨i + 1, _, by omega, by simp, HDB, HKB⟩
            case measure => simp only [intOf]; omega
          by_cases h4 : kind = 4
          · subst h4
            clear h1 h2 h3
            go_wp2_with fail
            refine (do_any HFA.out HDA.out 4 m nm s (by have := HSM.out; omega) (by have := HSM.out; omega) qk ks ck).mono ?_
            rintro e wb ⟨rfl, hdb, hkb⟩
            have HDB := Lib.hid hdb
            have HKB := Lib.hid (HKA.out.trans hkb)
            clear hdb hkb c0 c1 c2 c3 c4
            go_wp2_with fail
            go_roundw
            case rel => exact ⟨i + 1, _, by omega, by simp, HDB, HKB⟩
            case measure => simp only [intOf]; omega
          by_cases h5 : kind = 5
          · subst h5
            clear h1 h2 h3 h4
            have hcr := crash_any HDA.out (.slice qk ks ck) keep (HIA.out.mono (fun i hi _ hf => by have h1 := HFW.out i hf; omega)) (by have := HKS.out; have := HSM.out; omega)
            have HCR := Lib.hid hcr
            clear hcr
            go_wp2_with fail
            refine (HCR.out).mono ?_
            rintro e wb ⟨rfl, hdb, hkb⟩
            have HDB := Lib.hid hdb
            have HKB := Lib.hid (HKA.out.trans hkb)
            clear hdb hkb c0 c1 c2 c3 c4 HCR
            go_wp2_with fail
            go_roundw
            case rel => exact ⟨i + 1, _, by omega, by simp, HDB, HKB⟩
            case measure => simp only [intOf]; omega
          by_cases h6 : kind = 6
          · subst h6
            clear h1 h2 h3 h4 h5
            go_wp2_with fail
            refine (arm_dk HDA.out m HMB.out.2).mono ?_
            rintro e wb ⟨rfl, hdb, hkb⟩
            have HDB := Lib.hid hdb
            have HKB := Lib.hid (HKA.out.trans hkb)
            clear hdb hkb c0 c1 c2 c3 c4
            go_wp2_with fail
            go_roundw
            case rel => exact ⟨i + 1, _, by omega, by simp, HDB, HKB⟩
            case measure => simp only [intOf]; omega
          · have g1 : (kind == 1) = false := by simp [h1]
            have g2 : (kind == 2) = false := by simp [h2]
            have g3 : (kind == 3) = false := by simp [h3]
            have g4 : (kind == 4) = false := by simp [h4]
            have g5 : (kind == 5) = false := by simp [h5]
            have g6 : (kind == 6) = false := by simp [h6]
            clear h1 h2 h3 h4 h5 h6
            go_wp2_with fail
            go_roundw
            case rel => exact ⟨i + 1, kd, by omega, by simp, HDA, HKA⟩
            case measure => simp only [intOf]; omega
        · obtain rfl : i = M := by omega
          have hb5 := HK.out.below HB4.out.size HFW.out
          have hc5 := HC4.out.far HK.out (fun j hj _ => HFX.out.2.2 j hj.1 hj.2)
          have hQ : QM w wr w.heap.size xb c k k (.slice q n cap) := ⟨hc5.mono (fun j hj _ => by show w.heap.size ≤ j; have := hj.1; have := HB4.out.size; have := HXL.out; have := HXW.out; omega), HX4.out.keptF HK.out HFX.out.1, HR4.out.keptF HK.out HFX.out.2.1, HB4.out.trans hb5, HXW.out⟩
          have HQ := Lib.hid hQ
          have x0 := hQ.ref.c 0 rfl
          have x1 := hQ.ref.c 1 rfl
          have x2 := hQ.ref.c 2 rfl
          clear hb5 hc5 hQ HD HK HC4 HX4 HR4 HD4
          go_wp2_with fail
          refine (unlike_any HQ.out.dk HQ.out.row).mono ?_
          rintro e w6 ⟨rfl, hdu, hbu⟩
          have HQ6 := Lib.hid (HQ.out.below hbu)
          clear hdu hbu x0 x1 x2 HQ
          go_wp2_with fail
          clear HFN HFW HFX HXL
          go_loopw [67] (fun iv wr => ∃ (j : Nat) (kk : Dk) (qv : Option Addr) (nv cv : Nat), j ≤ i ∧ iv = .int .i64 j ∧ Hid (QM w wr w.heap.size xb c kk kk (.slice qv nv cv))) (fun iv _ => i - (intOf iv).toNat)
          case atStart => exact ⟨0, k, q, n, cap, by omega, rfl, HQ6⟩
          case round =>
            obtain ⟨j, kk, qv, nv, cv, hi2, rfl, HQ⟩ := hrel
            by_cases hlt2 : j < i
            · have hil : j < more.length := by rw [HM.out]; exact hlt2
              obtain ⟨ad, rfl, hab, hmb, kv, c0, c1, c2, c3, c4, hk⟩ := (HVM.out.below HQ.out.bw).at j hil
              have hsm := longL_some HL2.out hil
              obtain ⟨o, ho⟩ : ∃ o, more[j] = o := ⟨_, rfl⟩
              rw [ho] at c0 c1 c2 c3 hk hsm hmb
              obtain ⟨kind, m, nm, s, keep⟩ := o
              simp only at c0 c1 c2 c3 hk hsm hmb
              obtain ⟨qk, ck, rfl⟩ := hk.len
              obtain ⟨ks, hks⟩ : ∃ ks, keep.length = ks := ⟨_, rfl⟩
              rw [hks] at hk c4 hsm
              go_upto_region 28 with fail
              obtain ⟨oc, hc⟩ : ∃ c, wr.heap.size = c := ⟨_, rfl⟩
              have hQA := HQ.out.below ((Below.refl _ wr).alloc (Nat.le_refl _) (.cells #[.int .i64 kind, .int .i64 m, .string (bs nm), .string (bs s), .slice qk ks ck] 41))
              have hCA : Blk (wr.alloc (.cells #[.int .i64 kind, .int .i64 m, .string (bs nm), .string (bs s), .slice qk ks ck] 41)) oc [.int .i64 kind, .int .i64 m, .string (bs nm), .string (bs s), .slice qk ks ck] 41 := Blk.at hc.symm [_, _, _, _, _] 41
              have hcx : xb < oc := by have h2 := HQ.out.ref.lt; omega
              have HSM := Lib.hid hsm
              rw [hc]
              clear HQ c0 c1 c2 c3 c4 hk ho hil hab hc hsm hmb hks
              generalize wr.alloc (.cells #[.int .i64 kind, .int .i64 m, .string (bs nm), .string (bs s), .slice qk ks ck] 41) = wa at hQA hCA ⊢
              have HQA := Lib.hid hQA
              have HCA := Lib.hid hCA
              have HCX := Lib.hid hcx
              have c0 := hCA.c 0 rfl
              have c1 := hCA.c 1 rfl
              have c2 := hCA.c 2 rfl
              have c3 := hCA.c 3 rfl
              have c4 := hCA.c 4 rfl
              have x0 := hQA.ref.c 0 rfl
              have x1 := hQA.ref.c 1 rfl
              have x2 := hQA.ref.c 2 rfl
              have xf0 := hQA.ref.f 0
              have xf1 := hQA.ref.f 1
              have xf2 := hQA.ref.f 2
              clear hQA hCA hcx
              by_cases hk1 : kind < 1
              · have g1 : decide (kind < 1) = true := by simpa using hk1
                clear hk1
                go_wp2_with fail
                go_roundw
                case rel => exact ⟨j + 1, kk, qv, nv, cv, by omega, by simp, HQA⟩
                case measure => simp only [intOf]; omega
              have g1 : decide (kind < 1) = false := by simpa using hk1
              by_cases hk4 : 4 < kind
              · have g2 : decide (4 < kind) = true := by simpa using hk4
                clear hk1 hk4
                go_wp2_with fail
                go_roundw
                case rel => exact ⟨j + 1, kk, qv, nv, cv, by omega, by simp, HQA⟩
                case measure => simp only [intOf]; omega
              · have g2 : decide (4 < kind) = false := by simpa using hk4
                have hst := stepr_any HQA.out.row HQA.out.dk.ok kind (by omega) nm s (by have := HSM.out; omega)
                have HST1 := Lib.hid hst
                clear hst hk1 hk4
                go_wp2_with fail
                refine (HST1.out).mono ?_
                rintro e w7 ⟨v7, rfl, hr7, hb7⟩
                obtain ⟨k2, hk2⟩ : ∃ x, stD kk kind nm s = x := ⟨_, rfl⟩
                obtain ⟨E, hE⟩ : ∃ x, stE kk kind nm s = x := ⟨_, rfl⟩
                rw [hk2] at hr7
                rw [hk2, hE]
                obtain ⟨q7, c7, rfl⟩ := hr7.len
                obtain ⟨n7, hn7⟩ : ∃ n, k2.L.length = n := ⟨_, rfl⟩
                rw [hn7] at hr7
                rw [hn7]
                have HB7 := Lib.hid hb7
                have HR7 := Lib.hid hr7
                have HK2 := Lib.hid hk2
                have HEE := Lib.hid hE
                have hQ7 := HQA.out.below hb7
                have hC7 := HCA.out.below hb7 HCA.out.lt
                clear c0 c1 c2 c3 c4 x0 x1 x2 xf0 xf1 xf2
                have c0 := hC7.c 0 rfl
                have c1 := hC7.c 1 rfl
                have c2 := hC7.c 2 rfl
                have c3 := hC7.c 3 rfl
                have c4 := hC7.c 4 rfl
                have x0 := hQ7.ref.c 0 rfl
                have x1 := hQ7.ref.c 1 rfl
                have x2 := hQ7.ref.c 2 rfl
                have xf0 := hQ7.ref.f 0
                have xf1 := hQ7.ref.f 1
                have xf2 := hQ7.ref.f 2
                clear hr7 hb7 hk2 hE hn7 hQ7 hC7 HST1
                go_upto_region 30 with fail
                obtain ⟨z, hz⟩ : ∃ z, w7.heap.size = z := ⟨_, rfl⟩
                have hB8 := HB7.out.trans ((Below.refl _ w7).alloc HB7.out.size (.cells #[.slice q7 n7 c7, .int .i64 k2.fuse, .bool k2.down] 28))
                have hZ8 : Blk (w7.alloc (.cells #[.slice q7 n7 c7, .int .i64 k2.fuse, .bool k2.down] 28)) z [.slice q7 n7 c7, .int .i64 k2.fuse, .bool k2.down] 28 := Blk.at hz.symm [_, _, _] 28
                have hR8 := HR7.out.alloc (.cells #[.slice q7 n7 c7, .int .i64 k2.fuse, .bool k2.down] 28)
                rw [hz]
                clear c0 c1 c2 c3 c4 x0 x1 x2 xf0 xf1 xf2 HB7 HR7 hz
                generalize w7.alloc (.cells #[.slice q7 n7 c7, .int .i64 k2.fuse, .bool k2.down] 28) = w8 at hB8 hZ8 hR8 ⊢
                have hQ8 := HQA.out.below hB8
                have hC8 := HCA.out.below hB8 HCA.out.lt
                have c0 := hC8.c 0 rfl
                have c1 := hC8.c 1 rfl
                have c2 := hC8.c 2 rfl
                have c3 := hC8.c 3 rfl
                have c4 := hC8.c 4 rfl
                have x0 := hQ8.ref.c 0 rfl
                have x1 := hQ8.ref.c 1 rfl
                have x2 := hQ8.ref.c 2 rfl
                have xf0 := hQ8.ref.f 0
                have xf1 := hQ8.ref.f 1
                have xf2 := hQ8.ref.f 2
                have y0 := hZ8.c 0 rfl
                have y1 := hZ8.c 1 rfl
                have y2 := hZ8.c 2 rfl
                have hQ9 := HQA.out.refset (kr' := k2) hB8 hR8
                have hC9 := ((hC8.other (a := ⟨xb, 0, none⟩) (by show oc ≠ xb; have := HCX.out; omega) (.slice q7 n7 c7)).other (a := ⟨xb, 1, none⟩) (by show oc ≠ xb; have := HCX.out; omega) (.int .i64 k2.fuse)).other (a := ⟨xb, 2, none⟩) (by show oc ≠ xb; have := HCX.out; omega) (.bool k2.down)
                have HQ9 := Lib.hid hQ9
                have HC9 := Lib.hid hC9
                clear hB8 hZ8 hR8 hQ8 hC8 hQ9 hC9
                go_upto_region 31 with fail
                have hQ9 := HQ9.out
                have hC9 := HC9.out
                clear c0 c1 c2 c3 c4 x0 x1 x2 xf0 xf1 xf2 y0 y1 y2 HQ9 HC9
                generalize ((w8.setCell ⟨xb, 0, none⟩ (.slice q7 n7 c7)).setCell ⟨xb, 1, none⟩ (.int .i64 k2.fuse)).setCell ⟨xb, 2, none⟩ (.bool k2.down) = w9 at hQ9 hC9 ⊢
                have c0 := hC9.c 0 rfl
                have c1 := hC9.c 1 rfl
                have c2 := hC9.c 2 rfl
                have c3 := hC9.c 3 rfl
                have c4 := hC9.c 4 rfl
                have x0 := hQ9.ref.c 0 rfl
                have x1 := hQ9.ref.c 1 rfl
                have x2 := hQ9.ref.c 2 rfl
                have xf0 := hQ9.ref.f 0
                have xf1 := hQ9.ref.f 1
                have xf2 := hQ9.ref.f 2
                have hdo := do_any hQ9.free hQ9.sep kind m nm s (by have := HSM.out; omega) (by have := HSM.out; omega) qk ks ck
                rw [HEE.out, HK2.out] at hdo
                have HDO := Lib.hid hdo
                have HQ9 := Lib.hid hQ9
                clear hQ9 hC9 hdo
                go_wp2_with fail
                refine (HDO.out).mono ?_
                rintro e wd ⟨rfl, hdd, hkd⟩
                have HX9 := Lib.hid (HQ9.out.turn hdd hkd)
                clear c0 c1 c2 c3 c4 x0 x1 x2 xf0 xf1 xf2 HQ9 hdd hkd HDO
                go_wp2_with fail
                go_roundw
                case rel => exact ⟨j + 1, k2, q7, n7, c7, by omega, by simp, HX9⟩
                case measure => simp only [intOf]; omega
            · obtain rfl : j = i := by omega
              have hQ := HQ.out
              have x0 := hQ.ref.c 0 rfl
              have x1 := hQ.ref.c 1 rfl
              have x2 := hQ.ref.c 2 rfl
              clear hQ
              go_wp2_with fail
              refine (unlike_any HQ.out.dk HQ.out.row).mono ?_
              rintro e we ⟨rfl, hdu, hbu⟩
              have HBE := Lib.hid (fin.out _ _ HQ.out.bw hbu)
              clear hdu hbu x0 x1 x2
              go_wp2_with fail
              refine (haw.out _).mono ?_
              rintro e wf ⟨rfl, hbf⟩
              have HBF := Lib.hid (fin.out _ _ HBE.out hbf)
              clear hbf
              go_wp2_with fail
              go_ret
              exact ⟨rfl, HBF.out⟩
end Go.Proofs.Ytfkefppabjbbdaa
