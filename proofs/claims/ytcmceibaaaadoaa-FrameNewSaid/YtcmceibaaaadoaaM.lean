/- The reference's Seal. -/
import Derived.Test.YtcmceibaaaadoaaK
import Derived.BigRegion
import Derived.Deep.DeepCutAuto
namespace Go.Proofs.Ytcmceibaaaadoaa
open Go.RowKit
set_option linter.unusedVariables false
set_option maxRecDepth 100000 in
theorem rseal_long (s : ByteArray) (hl : 65536 < s.size) (w : World) :
    Calls Try.prog 12 #[.string s] w fun e w' => e = .returned (.tuple #[.string ⟨#[]⟩, .bool false]) ∧ w' = w := by
  have h1 : decide ((65536 : Int) < (s.size : Int)) = true := by simp; omega
  go_enter Try.func12, Try.ntmps12
  go_wp2
  go_ret2
  exact ⟨rfl, rfl⟩
set_option maxRecDepth 100000 in
set_option maxHeartbeats 2000000 in
theorem rseal_any (s : ByteArray) (l : List UInt8) (hs : s = bs l) (hl : l.length ≤ 65536) (w : World) :
    Calls Try.prog 12 #[.string s] w fun e w' => e = .returned (.tuple #[.string (bs (frameL l)), .bool true]) ∧ Below w.heap.size w w' := by
  obtain ⟨n, hn⟩ : ∃ n, l.length = n := ⟨_, rfl⟩
  have hsz : s.size = n := by rw [hs, bs_size, hn]
  rw [hn] at hl
  obtain ⟨H, hH⟩ : ∃ H, bs (beL 3 n) = H := ⟨_, rfl⟩
  have hHs : H.size = 3 := by rw [← hH, bs_size, beL_len]
  obtain ⟨a, ha⟩ : ∃ a, (n / 256 / 256 % 256).toUInt8 = a := ⟨_, rfl⟩
  obtain ⟨b, hb⟩ : ∃ b, (n / 256 % 256).toUInt8 = b := ⟨_, rfl⟩
  obtain ⟨c, hc⟩ : ∃ c, (n % 256).toUInt8 = c := ⟨_, rfl⟩
  have hl3 : beL 3 n = [a, b, c] := by rw [← ha, ← hb, ← hc]; rfl
  have i0 : H[0] = a := by subst hH; simp [hl3, bs]; rfl
  have i1 : H[1] = b := by subst hH; simp [hl3, bs]; rfl
  have i2 : H[2] = c := by subst hH; simp [hl3, bs]; rfl
  have hal := a.toNat_lt
  have hbl := b.toNat_lt
  have hcl := c.toNat_lt
  obtain ⟨X, hX⟩ : ∃ X, bs [inv a, inv b, inv c] = X := ⟨_, rfl⟩
  have hXs : X.size = 3 := by rw [← hX, bs_size]; rfl
  have hconv : ∀ w' : World, (convert 22 9 (.slice (some ⟨w'.heap.size, 0, none⟩) 3 3)).run Try.prog (w'.alloc (.cells #[.int .u8 (255 - (a.toNat : Int)), .int .u8 (255 - (b.toNat : Int)), .int .u8 (255 - (c.toNat : Int))] 5)).drew = .ok (.string X) (w'.alloc (.cells #[.int .u8 (255 - (a.toNat : Int)), .int .u8 (255 - (b.toNat : Int)), .int .u8 (255 - (c.toNat : Int))] 5)).drew := fun w' => by
    rw [inv_int, inv_int, inv_int, ← hX]
    exact (lit_seen w' [inv a, inv b, inv c] (0, 0)).drew.text
  have HF : Hid (H ++ X ++ s = bs (frontL l)) := by
    unfold Hid
    rw [← hH, ← hX, hs, bs_app, bs_app]
    congr 1
    unfold frontL headL
    rw [hn, hl3]
    rfl
  have Hn := Lib.hid hn
  have HS := Lib.hid hs
  have HH := Lib.hid hH
  clear hn hs hH hX ha hb hc hl3
  have h1 : decide ((65536 : Int) < (n : Int)) = false := by simp; omega
  go_enter Try.func12, Try.ntmps12
  go_wp2_with fail
  refine (rnum_any n 3 (by omega) (by omega) _).mono ?_
  rw [HH.out]
  rintro e w1 ⟨rfl, hb1⟩
  go_wp2_with fail
  go_region
  all_goals
    have hb2 : Below w.heap.size w _ := (hb1.alloc hb1.size (.cells #[.int .u8 (255 - (a.toNat : Int)), .int .u8 (255 - (b.toNat : Int)), .int .u8 (255 - (c.toNat : Int))] 5)).drew
    go_wp2_with fail
    obtain ⟨F, hF⟩ : ∃ F, H ++ X ++ s = F := ⟨_, rfl⟩
    have hFs : F.size = n + 6 := by rw [← hF, ByteArray.size_append, ByteArray.size_append]; omega
    have hFF : F = bs (frontL l) := by rw [← hF]; exact HF.out
    have hFd : F.data.toList = frontL l := by rw [hFF, bs_data]
    rw [hF]
    have HFF := Lib.hid hFF
    have HFd := Lib.hid hFd
    clear hF hFF hFd hconv
    refine (rsum_any F (by omega) _).mono ?_
    rw [HFd.out]
    rintro e w2 ⟨rfl, rfl⟩
    have hsl := sumN_lt (frontL l)
    have HB2 := Lib.hid hb2
    clear hb1 hb2
    go_wp2_with fail
    refine (rnum_any (sumN (frontL l)) 4 hsl (by omega) _).mono ?_
    obtain ⟨Y, hY⟩ : ∃ Y, bs (beL 4 (sumN (frontL l))) = Y := ⟨_, rfl⟩
    have hYs : Y.size = 4 := by rw [← hY, bs_size, beL_len]
    rw [hY]
    rintro e w3 ⟨rfl, hb3⟩
    have bw := HB2.out.trans (hb3.mono HB2.out.size)
    have HE : Hid (F ++ Y = bs (frameL l)) := by
      unfold Hid
      rw [HFF.out, ← hY, bs_app]
      rfl
    clear hY hb3
    go_wp2_with fail
    go_ret2
    refine ⟨?_, bw⟩
    rw [← HE.out]
    rfl
end Go.Proofs.Ytcmceibaaaadoaa
