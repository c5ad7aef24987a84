/- The chapter's example. -/
import Derived.Test.YtcmceibaaaadoaaH
import Derived.Lib.SlBytesConst
namespace Go.Proofs.Ytcmceibaaaadoaa
open Go.RowKit
set_option linter.unusedVariables false
def ex0 : List UInt8 := [0, 0, 0, 255, 255, 255, 6, 0, 2, 254]
theorem ex_frame : frameL [] = ex0 := by decide
theorem ex_open : openS ex0 = (10 + 0, 0) := by decide
theorem ex_pay : openP ex0 = [] := by decide
theorem ex_text : (bs ex0).toList = [0, 0, 0, 255, 255, 255, 6, 0, 2, 254] := bs_toList ex0
theorem lit_seen (w : World) (l : List UInt8) (fr : Nat × Nat) : Seen (w.alloc (.cells (u8s l).toArray 5 fr)) (w.alloc (.cells (u8s l).toArray 5 fr)).heap.size (.slice (some ⟨w.heap.size, 0, none⟩) l.length l.length) l := by
  refine Seen.mk rfl (Nat.le_refl _) (fun _ => by simp) (fun j hj => ?_)
  have hh := heap_alloc_new w (.cells (u8s l).toArray 5 fr)
  have := u8s_get hj
  rw [Addr.add_mid, Nat.zero_add]
  simp only [World.cell?, hh]
  simpa using this
theorem ex_seen (w : World) : Seen (w.alloc (.cells #[.int .u8 0, .int .u8 0, .int .u8 0, .int .u8 255, .int .u8 255, .int .u8 255, .int .u8 6, .int .u8 0, .int .u8 2, .int .u8 254] 5 (10, 11))) (w.alloc (.cells #[.int .u8 0, .int .u8 0, .int .u8 0, .int .u8 255, .int .u8 255, .int .u8 255, .int .u8 6, .int .u8 0, .int .u8 2, .int .u8 254] 5 (10, 11))).heap.size (.slice (some ⟨w.heap.size, 0, none⟩) 10 10) ex0 := lit_seen w ex0 (10, 11)
set_option maxRecDepth 100000 in
set_option maxHeartbeats 1000000 in
theorem awake_any (w : World) : Calls Try.prog 10 #[] w fun e w' => e = .returned (.bool true) ∧ Below w.heap.size w w' := by
  go_enter Try.func10, Try.ntmps10
  go_wp2_with fail
  refine (seal_any _ [] (by decide) w (Seen.nil _ _)).mono ?_
  rw [ex_frame]
  simp only [List.length_nil, Nat.zero_add]
  rintro e w1 ⟨rfl, hr, hb⟩
  have HR := Lib.hid hr
  have HB := Lib.hid hb
  have HS := Lib.hid (ex_seen w1)
  have kc := fun (w : World) (C : Array Value) (n c : Nat) => Lib.run_convert_bytes_const (P := Try.prog) w 22 5 C n c Try.underlying22 Try.underlying5
  clear hr hb
  go_wp2_with fail
  refine (open_whole _ ex0 (by decide) 0 ex_open (by decide) _ HS.out).mono ?_
  rw [ex_pay]
  rintro e w2 ⟨u, rfl, ho, hb2⟩
  have bw := HB.out.trans (((Below.refl w.heap.size w1).alloc HB.out.size (.cells #[.int .u8 0, .int .u8 0, .int .u8 0, .int .u8 255, .int .u8 255, .int .u8 255, .int .u8 6, .int .u8 0, .int .u8 2, .int .u8 254] 5 (10, 11))).trans (hb2.mono (by have := HB.out.size; simp; omega)))
  have hr2 := (HR.out.below (((Below.refl w1.heap.size w1).alloc (Nat.le_refl _) (.cells #[.int .u8 0, .int .u8 0, .int .u8 0, .int .u8 255, .int .u8 255, .int .u8 255, .int .u8 6, .int .u8 0, .int .u8 2, .int .u8 254] 5 (10, 11))).trans (hb2.mono (by simp))) HR.out.lt).seen.text
  obtain ⟨qq, cc, rfl⟩ := ho.len
  have q1 := ex_text
  clear hb2 kc
  go_wp2_with fail
  go_ret
  exact ⟨rfl, bw⟩
end Go.Proofs.Ytcmceibaaaadoaa
