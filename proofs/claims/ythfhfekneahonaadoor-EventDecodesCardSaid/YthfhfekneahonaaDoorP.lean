/- The chapter's example. -/
import Derived.Test.YthfhfekneahonaaDoorO
namespace Go.Proofs.YthfhfekneahonaaDoor
open Go.RowKit
set_option linter.unusedVariables false
theorem conv_own {w : World} {base : Nat} {u : Value} {l : List UInt8} (h : OwnB w base u l) (hl : 0 < l.length) : (convert 44 9 u).run Tryd.prog w = .ok (.string (bs l)) w := by
  obtain ⟨g, cap, rfl, _, hg⟩ := World.ownsRow.form (w := w) h hl
  refine run_convert_bytes_back (P := Tryd.prog) w 44 9 5 ⟨g, 0, none⟩ cap l Tryd.underlying44 Tryd.underlying5 Tryd.underlying9 (fun j hj => ?_)
  refine own_cells h j _ ?_
  unfold u8s
  rw [List.getElem?_map, List.getElem?_eq_getElem hj]
  rfl
theorem num300 : numL 300 = [172, 2] := by rw [numL_big (by omega), numL_small (by omega)]; rfl
theorem num5 : numL 5 = [5] := by rw [numL_small (by omega)]; rfl
theorem num0 : numL 0 = [0] := by rw [numL_small (by omega)]; rfl
theorem ex_may : mayB ⟨⟨#[97]⟩, (300 : Nat), (5 : Nat), (0 : Nat), ⟨#[112]⟩, ⟨#[113]⟩, (0 : Nat), ⟨#[]⟩⟩ = true := by decide
theorem ex_enc : encL ⟨⟨#[97]⟩, (300 : Nat), (5 : Nat), (0 : Nat), ⟨#[112]⟩, ⟨#[113]⟩, (0 : Nat), ⟨#[]⟩⟩ = [0, 1, 97, 172, 2, 5, 1, 112, 1, 113, 0, 0] := by
  rw [encN, num300, num5, num0]; rfl
theorem dec300 : Lib.decDigits 300 = [51, 48, 48] := by rw [dec_big (by omega), dec_big (by omega), dec_small (by omega)]; rfl
theorem dec5 : Lib.decDigits 5 = [53] := by rw [dec_small (by omega)]; rfl
theorem dec0 : Lib.decDigits 0 = [48] := by rw [dec_small (by omega)]; rfl
theorem ex_fmt : fmtL ⟨⟨#[97]⟩, (300 : Nat), (5 : Nat), (0 : Nat), ⟨#[112]⟩, ⟨#[113]⟩, (0 : Nat), ⟨#[]⟩⟩ = [97, 32, 51, 48, 48, 32, 53, 32, 115, 101, 101, 110, 32, 112, 32, 113, 32, 48, 32, 46] := by
  unfold fmtL
  simp only [Int.toNat_natCast]
  rw [dec300, dec5, dec0]; rfl
set_option maxRecDepth 100000 in
set_option maxHeartbeats 1000000 in
theorem lives_any (w : World) (hL : Lay w) : Calls Tryd.prog 12 #[] w fun e w' => e = .returned (.bool true) ∧ Below w.heap.size w w' := by
  have HL := Lib.hid hL
  have h1 := enc_nat ⟨#[97]⟩ 300 5 0 ⟨#[112]⟩ ⟨#[113]⟩ 0 ⟨#[]⟩ ex_may
  have h2 := fmt_nat ⟨#[97]⟩ 300 5 0 ⟨#[112]⟩ ⟨#[113]⟩ 0 ⟨#[]⟩ ex_may
  rw [ex_enc] at h1
  rw [ex_fmt] at h2
  have H1 := Lib.hid h1
  have H2 := Lib.hid h2
  clear hL h1 h2
  go_enter Tryd.func12, Tryd.ntmps12
  go_wp2_with fail
  refine (H1.out _ (HL.out.alloc _)).mono ?_
  rintro e w1 ⟨u, rfl, ho, hb⟩
  have M : FSt w ⟨⟨#[97]⟩, 300, 5, 0, ⟨#[112]⟩, ⟨#[113]⟩, 0, ⟨#[]⟩⟩ w1 := ⟨(EvAt.new w ⟨⟨#[97]⟩, 300, 5, 0, ⟨#[112]⟩, ⟨#[113]⟩, 0, ⟨#[]⟩⟩).below hb (by simp), (HL.out.alloc _).next hb, ((Below.refl w.heap.size w).alloc (by simp) _).trans (hb.mono (by simp))⟩
  have hcv := conv_own ho (by decide)
  obtain ⟨c0, c1, c2, c3, c4, c5, c6, c7⟩ := M.ev.all
  simp only at c0 c1 c2 c3 c4 c5 c6 c7
  have hz := M.ev.lt
  have q1 : (bs [0, 1, 97, 172, 2, 5, 1, 112, 1, 113, 0, 0]).toList = [0, 1, 97, 172, 2, 5, 1, 112, 1, 113, 0, 0] := by rw [toL, bs_data]
  clear hb ho
  go_wp2_with fail
  refine (H2.out _ M.lay).mono ?_
  rintro e w2 ⟨rfl, hb⟩
  have bw := M.bw.trans (hb.mono M.bw.size)
  have q2 : (bs [97, 32, 51, 48, 48, 32, 53, 32, 115, 101, 101, 110, 32, 112, 32, 113, 32, 48, 32, 46]).toList = [97, 32, 51, 48, 48, 32, 53, 32, 115, 101, 101, 110, 32, 112, 32, 113, 32, 48, 32, 46] := by rw [toL, bs_data]
  clear hb
  go_wp2
  go_ret
  exact ⟨rfl, bw⟩
end Go.Proofs.YthfhfekneahonaaDoor
