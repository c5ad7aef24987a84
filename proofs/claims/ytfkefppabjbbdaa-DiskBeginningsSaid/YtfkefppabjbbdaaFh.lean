/- Is a disk the document's? · The program's Copy, as a disk. -/
import Derived.Test.YtfkefppabjbbdaaFg
import Derived.Test.YtfkefppabjbbdaaW
import Derived.Test.YtfkefppabjbbdaaF1
import Derived.Test.YtfkefppabjbbdaaF2
import Derived.Test.YtfkefppabjbbdaaF3
import Derived.Test.YtfkefppabjbbdaaF4
import Derived.BigQuiet
namespace Go.Proofs.Ytfkefppabjbbdaa
open Go.RowKit Go.Maps
set_option linter.unusedVariables false
theorem copy_dk {w : World} {F : Nat → Prop} {d : Nat} {k : Dk} (h : DiskAt w F d k) :
    Calls Try.prog 19 #[.pointer (some ⟨d, 0, none⟩)] w fun e w' => ∃ c, e = .returned (.pointer (some ⟨c, 0, none⟩)) ∧ DiskAt w' (fun i => w.heap.size ≤ i) c k ∧ Below w.heap.size w w' := by
  obtain ⟨B, E, hm, hE, hok⟩ := h
  have hmem : ∀ e ∈ E, e.f ∈ k.L := fun e he => by rw [← hE]; exact List.mem_map_of_mem he
  refine (copy_try hm (by rw [← len_E hE]; have := hok.len; omega) (fun e he => by have := tot_mem (hmem e he); have := hok.tot; omega) (fun e he => by have := hok.names _ (hmem e he); omega)).mono ?_
  rintro e w' ⟨c, B2, E2, rfl, hd, hE2, hb⟩
  exact ⟨c, rfl, ⟨B2, E2, hd, hE2.trans hE, hok⟩, hb⟩
set_option maxRecDepth 100000 in
set_option maxHeartbeats 1000000 in
theorem unlike_any {w : World} {F : Nat → Prop} {d : Nat} {k : Dk} {base : Nat} {v : Value} (h : DiskAt w F d k) (hv : Files w base v k.L) :
    Calls Try.prog 27 #[.pointer (some ⟨d, 0, none⟩), .agg #[v, .int .i64 k.fuse, .bool k.down]] w fun e w' => e = .returned (.string ⟨#[]⟩) ∧ DiskAt w' F d k ∧ Below w.heap.size w w' := by
  have hok := h.ok
  obtain ⟨fuse, hfz⟩ : ∃ x, k.fuse = x := ⟨_, rfl⟩
  obtain ⟨down, hdn⟩ : ∃ x, k.down = x := ⟨_, rfl⟩
  obtain ⟨q, cap, rfl⟩ := hv.len
  obtain ⟨N, hN⟩ : ∃ N, k.L.length = N := ⟨_, rfl⟩
  have hN4 : N ≤ 4096 := by rw [← hN]; exact hok.len
  have HV := Lib.hid hv
  have HD := Lib.hid h
  have HOK := Lib.hid hok
  have hns := names_dk (h.alloc (.cells #[.slice q N cap, .int .i64 fuse, .bool down] 28))
  rw [hN] at HV hns
  rw [hN, hfz, hdn]
  have HNS := Lib.hid hns
  have HN := Lib.hid hN
  have HFZ := Lib.hid hfz
  have HDN := Lib.hid hdn
  obtain ⟨b0, hb0⟩ : ∃ b, w.heap.size = b := ⟨_, rfl⟩
  have HB0 := Lib.hid hb0
  clear h hv hok hns hN hfz hdn
  rw [hb0]
  go_enter Try.func27, Try.ntmps27
  go_wp2_with fail
  refine (HNS.out).mono ?_
  rintro e w1 ⟨qn, cn, rfl, ht, hd1, hb1⟩
  have hA1 := (Blk.at (w := w) hb0.symm [.slice q N cap, .int .i64 fuse, .bool down] 28).below hb1 (by simp; omega)
  have hV1 := (HV.out.alloc (.cells #[.slice q N cap, .int .i64 fuse, .bool down] 28)).below hb1 (Nat.le_refl _)
  have hB1 : Below b0 w w1 := ((Below.refl _ w).alloc (by omega) _).trans (hb1.mono (by simp; omega))
  have hdc := hd1.down
  rw [HDN.out] at hdc
  have cA : ∀ m, Calls Try.prog 24 #[.pointer (some ⟨d, 0, none⟩)] (w1.drewN m) fun e w'' => e = .returned (.bool down) ∧ ∃ n, w'' = w1.drewN n := fun m => Calls.quiet_of_same (down_any (w1.drewN m) d down hdc)
  have a0 := hA1.c 0 rfl
  have a1 := hA1.c 1 rfl
  have a2 := hA1.c 2 rfl
  have HA1 := Lib.hid hA1
  have HV1 := Lib.hid hV1
  have HB1 := Lib.hid hB1
  have HT1 := Lib.hid ht
  have HD1 := Lib.hid hd1
  clear hA1 hV1 hB1 ht hd1 hb1 hdc
  go_upto_region 2 with fail
  go_quiet (first | with_reducible exact cA _)
  have HA2 := Lib.hid (HA1.out.drewN nq)
  have HV2 : Hid (Files (w1.drewN nq) base (.slice q N cap) k.L) := HV1
  have HT2 : Hid (Txts (w1.drewN nq) _ (.slice qn N cn) (k.L.map Fl.name)) := HT1
  have HD2 := Lib.hid (HD1.out.drewN nq)
  have HB2 := Lib.hid (HB1.out.trans (below_drewN3 b0 w1 nq))
  clear HA1 HV1 HT1 HD1 HB1 cA a0 a1 a2
  generalize w1.drewN nq = w2 at HA2 HV2 HT2 HD2 HB2 ⊢
  have hz2 : b0 < w2.heap.size := by have := HA2.out.lt; omega
  have a0 := HA2.out.c 0 rfl
  have a1 := HA2.out.c 1 rfl
  have a2 := HA2.out.c 2 rfl
  obtain ⟨bt, hbt⟩ : ∃ b, (w.alloc (.cells #[.slice q N cap, .int .i64 fuse, .bool down] 28)).heap.size = b := ⟨_, rfl⟩
  rw [hbt] at HT2
  clear a1 a2 hbt
  go_wp2_with fail
  go_loopw [29] (fun iv wr => ∃ i : Nat, i ≤ N ∧ iv = .int .i64 i ∧ Hid (DiskAt wr F d k) ∧ Hid (Below w2.heap.size w2 wr)) (fun iv _ => N - (intOf iv).toNat)
  case atStart => exact ⟨0, by omega, rfl, HD2, Lib.hid (Below.refl _ _)⟩
  case round =>
    obtain ⟨i, hi, rfl, HD, HB⟩ := hrel
    by_cases hlt : i < N
    · have hil : i < k.L.length := by rw [HN.out]; exact hlt
      have hT := HT2.out.below HB.out (Nat.le_refl _)
      obtain ⟨g, rfl, hcn⟩ := hT.at i (by rw [List.length_map]; exact hil)
      rw [List.getElem_map] at hcn
      have hfn := HOK.out.names _ (List.getElem_mem hil)
      obtain ⟨f, hf⟩ : ∃ f, k.L[i] = f := ⟨_, rfl⟩
      rw [hf] at hcn hfn
      have HF := Lib.hid hf
      have HIL := Lib.hid hil
      have hrd := read_any HD.out f.name (by omega)
      obtain ⟨X, hX⟩ : ∃ X, readS k f.name = X := ⟨_, rfl⟩
      obtain ⟨R, hR⟩ : ∃ R, find k f.name = R := ⟨_, rfl⟩
      rw [hX, hR] at hrd
      have HX := Lib.hid hX
      have HR := Lib.hid hR
      have HRD := Lib.hid hrd
      clear hT hf hX hR hrd hfn
      go_wp2_with fail
      refine (HRD.out).mono ?_
      rintro e w3 ⟨u, rfl, hob, hd3, hb3⟩
      obtain ⟨qu, cu, hu⟩ := hob.len
      obtain ⟨lx, hlx⟩ : ∃ n, X.length = n := ⟨_, rfl⟩
      rw [hlx] at hu
      subst hu
      have hB3 := HB.out.trans (hb3.mono HB.out.size)
      have hA3 := HA2.out.below hB3 HA2.out.lt
      have hV3 := HV2.out.below hB3 (Nat.le_refl _)
      have y0 := hA3.c 0 rfl
      have y1 := hA3.c 1 rfl
      have y2 := hA3.c 2 rfl
      have hrr := read_ref (k := k) hV3 (by have := HOK.out.len; omega) HOK.out.sorted f.name
      rw [HX.out, HR.out, HFZ.out, HDN.out] at hrr
      have HRR := Lib.hid hrr
      have HOB := Lib.hid hob
      have HD3 := Lib.hid hd3
      have HB3 := Lib.hid hB3
      have HA3 := Lib.hid hA3
      have HV3 := Lib.hid hV3
      clear hrr hob hd3 hB3 hA3 hV3 hb3 HRD HD hcn
      go_wp2_with fail
      refine (HRR.out).mono ?_
      rintro e w4 ⟨rfl, hb4⟩
      have hB4 := HB3.out.trans (hb4.mono HB3.out.size)
      have hcv := (Seen.own (HOB.out.below hb4 (Nat.le_refl _))).text
      have hV4 := HV3.out.below hb4 (Nat.le_refl _)
      have hA4 := HA3.out.below hb4 HA3.out.lt
      obtain ⟨ad, hqa, hab, -, hin⟩ := hV4.at i HIL.out
      subst hqa
      have hT4 := HT2.out.below hB4 (Nat.le_refl _)
      obtain ⟨g4, hg4, hcn4⟩ := hT4.at i (by rw [List.length_map]; exact HIL.out)
      cases hg4
      rw [List.getElem_map, HF.out] at hcn4
      rw [HF.out] at hin
      have x0 := hin.c0
      have z0 := hA4.c 0 rfl
      have q1 := text_yes (a := f.name) rfl
      have q2 : ((bs f.name).toList != (bs f.name).toList) = false := by rw [bne, q1]; rfl
      have q3 := text_yes (a := X) rfl
      have q4 : ((bs X).toList != (bs X).toList) = false := by rw [bne, q3]; rfl
      have HD4 := Lib.hid (HD3.out.below hb4)
      have HB4 := Lib.hid hB4
      clear y0 y1 y2 HRR HOB HD3 HB3 HA3 HV3 hb4 hB4 hV4 hA4 hin hT4
      go_wp2_with fail
      refine ⟨⟨i + 1, by omega, by simp, HD4, HB4⟩, ?_⟩
      simp only [intOf]
      omega
    · obtain rfl : i = N := by omega
      have HWB := Lib.hid (HB2.out.trans (HB.out.mono (by omega)))
      go_wp2_with fail
      go_ret
      exact ⟨rfl, HD.out, HWB.out⟩
end Go.Proofs.Ytfkefppabjbbdaa
