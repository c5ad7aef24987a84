/- Any payload's frame is just the document's; it is opened as it was. -/
import Derived.Test.YtcmceibaaaadoaaM
namespace Go.Proofs.Ytcmceibaaaadoaa
open Go.RowKit
set_option linter.unusedVariables false
theorem own_lit0 (w : World) : OwnB (w.alloc (.cells #[] 5)) w.heap.size (.slice (some ⟨w.heap.size, 0, none⟩) 0 0) [] :=
  ⟨rfl, .inr ⟨w.heap.size, 0, #[], rfl, Nat.le_refl _, heap_alloc_new w _, Nat.le_refl _, Nat.zero_le _, rfl, rfl⟩⟩
theorem nil_text (w : World) : (convert 22 9 (.slice none 0 0)).run Try.prog w = .ok (.string ⟨#[]⟩) w := (Seen.nil w 0).text
set_option maxRecDepth 100000 in
set_option maxHeartbeats 1000000 in
theorem seals_early (n m : Nat) (q q1 : Option Addr) (cap cap1 : Nat) (w : World) (h : 70000 < n ∨ 3000 < m) :
    Calls Try.prog 3 #[.slice q n cap, .slice q1 m cap1] w fun e w' => e = .returned (.bool true) ∧ Below w.heap.size w w' := by
  by_cases h1 : 70000 < n
  · have d1 : decide ((70000 : Int) < (n : Int)) = true := by simp; omega
    clear h
    go_enter Try.func3, Try.ntmps3
    go_wp2_with fail
    refine (awake_any _).mono ?_
    rintro e w1 ⟨rfl, hb⟩
    go_wp2_with fail
    go_ret
    exact ⟨rfl, hb⟩
  · have d1 : decide ((70000 : Int) < (n : Int)) = false := by simp; omega
    have d2 : decide ((3000 : Int) < (m : Int)) = true := by simp; omega
    clear h
    go_enter Try.func3, Try.ntmps3
    go_wp2_with fail
    refine (awake_any _).mono ?_
    rintro e w1 ⟨rfl, hb⟩
    go_wp2_with fail
    go_ret
    exact ⟨rfl, hb⟩
set_option maxRecDepth 100000 in
set_option maxHeartbeats 1000000 in
theorem seals_long (v : Value) (l : List UInt8) (m : Nat) (q1 : Option Addr) (cap1 : Nat) (w : World) (hv : Seen w w.heap.size v l) (h1 : ¬ 70000 < l.length) (h2 : ¬ 3000 < m) (h3 : 65536 < l.length) :
    Calls Try.prog 3 #[v, .slice q1 m cap1] w fun e w' => e = .returned (.bool true) ∧ Below w.heap.size w w' := by
  obtain ⟨q, cap, rfl, hcap⟩ := hv.len
  have HV := Lib.hid hv
  clear hv
  obtain ⟨n, hn⟩ : ∃ n, l.length = n := ⟨_, rfl⟩
  rw [hn] at HV h1 h3 ⊢
  have Hn := Lib.hid hn
  clear hn
  have d1 : decide ((70000 : Int) < (n : Int)) = false := by simp; omega
  have d2 : decide ((3000 : Int) < (m : Int)) = false := by simp; omega
  go_enter Try.func3, Try.ntmps3
  go_wp2_with fail
  refine (awake_any _).mono ?_
  rintro e w1 ⟨rfl, hb⟩
  have ht := (HV.out.below hb (Nat.le_refl _)).text
  have hnil := nil_text w1
  go_wp2_with fail
  refine (seal_long q n cap h3 _).mono ?_
  rintro e w2 ⟨rfl, rfl⟩
  go_wp2_with fail
  refine (rseal_long (bs l) (by rw [bs_size, Hn.out]; exact h3) _).mono ?_
  rintro e w3 ⟨rfl, rfl⟩
  clear ht
  go_wp2_with fail
  go_ret
  exact ⟨rfl, hb⟩
set_option maxRecDepth 100000 in
set_option maxHeartbeats 2000000 in
theorem seals_good (v : Value) (l : List UInt8) (v1 : Value) (l1 : List UInt8) (w : World) (hv : Seen w w.heap.size v l) (hv1 : Seen w w.heap.size v1 l1) (h3 : l.length ≤ 65536) (h4 : l1.length ≤ 3000) :
    Calls Try.prog 3 #[v, v1] w fun e w' => e = .returned (.bool true) ∧ Below w.heap.size w w' := by
  obtain ⟨q, cap, rfl, hcap⟩ := hv.len
  obtain ⟨q1, cap1, rfl, hcap1⟩ := hv1.len
  have HV := Lib.hid hv
  have HV1 := Lib.hid hv1
  clear hv hv1
  obtain ⟨n, hn⟩ : ∃ n, l.length = n := ⟨_, rfl⟩
  rw [hn] at HV h3 hcap ⊢
  have Hn := Lib.hid hn
  have HO := open_frame l l1 (by omega)
  rw [hn] at HO
  clear hn
  have HO := Lib.hid HO
  have d1 : decide ((70000 : Int) < (n : Int)) = false := by simp; omega
  have d2 : decide ((3000 : Int) < (l1.length : Int)) = false := by simp; omega
  go_enter Try.func3, Try.ntmps3
  go_wp2_with fail
  refine (awake_any _).mono ?_
  rintro e w1 ⟨rfl, hb⟩
  have hv1 := (HV.out.below hb (Nat.le_refl _)).mono hb.size
  have HW1 := Lib.hid hv1
  clear hv1
  go_wp2_with fail
  refine (seal_any _ l (by rw [Hn.out]; exact h3) _ HW1.out).mono ?_
  rw [Hn.out]
  rintro e w2 ⟨rfl, hr, hb2⟩
  have bw := hb.trans (hb2.mono hb.size)
  have hsz1 := hb.size
  have ht := (HV.out.below bw (Nat.le_refl _)).text
  have HR := Lib.hid hr
  clear hr hb hb2
  go_wp2_with fail
  refine (rseal_any (bs l) l rfl (by rw [Hn.out]; exact h3) _).mono ?_
  rintro e w3 ⟨rfl, hb3⟩
  have bw3 := bw.trans (hb3.mono bw.size)
  have hr3 := HR.out.below hb3 HR.out.lt
  have ht3 := hr3.seen.text
  have HR3 := Lib.hid hr3
  clear ht bw hb3 hr3
  obtain ⟨F, hF⟩ : ∃ F, bs (frameL l) = F := ⟨_, rfl⟩
  rw [hF] at ht3 ⊢
  clear hF
  go_wp2_with (at_builtin; refine wpList_append_seen rfl (.tmp 54) (.tmp 55) rfl w.heap.size _ [] rfl ((own_lit0 w3).mono bw3.size) w3.heap.size _ (frameL l) rfl (HR3.out.seen.below ((Below.refl w3.heap.size w3).alloc (Nat.le_refl _) _) (Nat.le_refl _)) ?c1 ?c2 w.heap.size w (bw3.alloc bw3.size _) (Nat.le_refl _) ?_)
  case c1 => rw [frameL_len, Hn.out]; simp; omega
  case c2 => have := bw3.size; simp; omega
  intro v4 w4 ho4 hb4
  go_wp2_with (at_builtin; refine wpList_append_seen rfl (.tmp 56) (.tmp 57) rfl w.heap.size _ _ rfl ho4 w.heap.size _ l1 rfl (HV1.out.below hb4.out (Nat.le_refl _)) ?d1 ?d2 w.heap.size w hb4.out (Nat.le_refl _) ?_)
  case d1 => rw [frameL_len, Hn.out]; omega
  case d2 => exact hb4.out.size
  intro v5 w5 ho5 hb5
  have hs5 := Seen.own ho5
  have HS5 := Lib.hid hs5
  have hl5 : (frameL l ++ l1).length = n + 10 + l1.length := by rw [List.length_append, frameL_len, Hn.out]
  have h10 : ((10 + n : Nat) : Int) = (n : Int) + 10 := by omega
  clear ho4 ho5 hs5
  go_wp2_with fail
  refine (open_whole _ (frameL l ++ l1) (by omega) n HO.out.1 (by omega) w5 HS5.out).mono ?_
  rw [HO.out.2, h10]
  clear h10
  rintro e w6 ⟨u6, rfl, ho6, hb6⟩
  have bw6 := hb5.out.trans (hb6.mono hb5.out.size)
  have t1 := (Seen.own ho6).text
  have t2 := (HV.out.below bw6 (Nat.le_refl _)).text
  clear ho6 hb6 ht3
  go_wp2_with fail
  go_ret
  exact ⟨rfl, bw6⟩
theorem law_seals (v : Value) (l : List UInt8) (v1 : Value) (l1 : List UInt8) (w : World) (hv : Seen w w.heap.size v l) (hv1 : Seen w w.heap.size v1 l1) :
    Calls Try.prog 3 #[v, v1] w fun e w' => e = .returned (.bool true) ∧ Below w.heap.size w w' := by
  by_cases h : 70000 < l.length ∨ 3000 < l1.length
  · obtain ⟨q, cap, rfl, _⟩ := hv.len
    obtain ⟨q1, cap1, rfl, _⟩ := hv1.len
    exact seals_early l.length l1.length q q1 cap cap1 w h
  · by_cases h3 : 65536 < l.length
    · obtain ⟨q1, cap1, rfl, _⟩ := hv1.len
      exact seals_long v l l1.length q1 cap1 w hv (by omega) (by omega) h3
    · exact seals_good v l v1 l1 w hv hv1 (by omega) (by omega)
end Go.Proofs.Ytcmceibaaaadoaa
