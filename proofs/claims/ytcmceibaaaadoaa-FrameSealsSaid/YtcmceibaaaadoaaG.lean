/- The program's Open. -/
import Derived.Test.YtcmceibaaaadoaaF
namespace Go.Proofs.Ytcmceibaaaadoaa
open Go.RowKit
set_option linter.unusedVariables false
set_option maxRecDepth 100000 in
theorem open_bad (v : Value) (l : List UInt8) (hl9 : l.length ≤ 1000000000) (s : Nat) (hs : openS l = (0, s)) (hs0 : s ≠ 0) (w : World) (hv : Seen w w.heap.size v l) :
    Calls Try.prog 13 #[v] w fun e w' => e = .returned (.tuple #[.slice none 0 0, .int .i64 0, .int .i64 s]) ∧ Below w.heap.size w w' := by
  have HV := Lib.hid hv
  have HS := Lib.hid hs
  have h0 : ((s : Int) == 0) = false := by simp; omega
  clear hv hs hs0
  go_enter Try.func13, Try.ntmps13
  go_wp2_with fail
  refine (look_any v l hl9 w HV.out).mono ?_
  rw [HS.out]
  rintro e w1 ⟨rfl, hb⟩
  go_wp2_with fail
  go_ret3
  exact ⟨rfl, hb⟩
set_option maxRecDepth 100000 in
theorem open_whole (v : Value) (l : List UInt8) (hl9 : l.length ≤ 1000000000) (N : Nat) (hs : openS l = (10 + N, 0)) (hN : 10 + N ≤ l.length) (w : World) (hv : Seen w w.heap.size v l) :
    Calls Try.prog 13 #[v] w fun e w' => ∃ u, e = .returned (.tuple #[u, .int .i64 ((10 + N : Nat) : Int), .int .i64 0]) ∧ OwnB w' w.heap.size u (openP l) ∧ Below w.heap.size w w' := by
  obtain ⟨i0, hi, hz0, hz1, hz2⟩ := info_parts info5
  obtain ⟨q, cap, rfl, hcap⟩ := hv.len
  obtain ⟨ad, rfl, _⟩ := hv.at 0 (by omega)
  obtain ⟨P, hP⟩ : ∃ P, openP l = P := ⟨_, rfl⟩
  have hP2 : P = (l.drop 6).take N := by
    rw [← hP, openP_yes hs, List.drop_take]; congr 1; omega
  have hPl : P.length = N := by rw [hP2, List.length_take, List.length_drop]; omega
  have HS6 := hv.drop 6 (by omega)
  have HV := Lib.hid hv
  have HS := Lib.hid hs
  rw [hP]
  clear hv hs hP
  obtain ⟨n, hn⟩ : ∃ n, l.length = n := ⟨_, rfl⟩
  rw [hn] at hN HV hl9 hcap HS6 ⊢
  have Hn := Lib.hid hn
  have H6 := Lib.hid HS6
  have HP2 := Lib.hid hP2
  clear HS6 hP2 hn
  have h10 : ((10 + N : Nat) : Int) = (N : Int) + 10 := by omega
  rw [h10]
  go_enter Try.func13, Try.ntmps13
  go_wp2_with fail
  refine (look_any _ l (by rw [Hn.out]; exact hl9) w HV.out).mono ?_
  rw [HS.out]
  simp only
  rw [h10]
  clear h10
  rintro e w1 ⟨rfl, hb⟩
  go_wp2_with (at_make; refine wpList_make_full _ rfl _ _ 22 rfl w.heap.size 5 i0 (.int .u8 0) 1 Try.underlying22 hi hz0 hz1 .i64 .i64 _ _ N rfl rfl ?c1 ?c2 ?c3 ?c4 ?c5 ?_)
  case c1 => omega
  case c2 => omega
  case c3 => rw [hz2]; omega
  case c4 => unfold maxLen; omega
  case c5 => exact hb.size
  intro w2 hr2 hg2
  have hb2 : Below w.heap.size w w2 := hb.grown hg2 hb.size (fun k hk => by cases hk)
  have hsz := hb.size
  obtain ⟨g, hg⟩ : ∃ g, w1.heap.size = g := ⟨_, rfl⟩
  rw [hg] at hr2 hsz ⊢
  obtain ⟨cur, hcur, hcs⟩ : ∃ cur : Array Value, w2.heap[g]? = some (.cells cur 5 (0, 0)) ∧ cur.size = N := by
    rcases hr2.2 with ⟨hv, _⟩ | ⟨g', cap', cur, hv, _, hh, _, _, hc, _⟩
    · cases hv
    · cases hv; exact ⟨cur, hh, by omega⟩
  have HC : Hid (w2.heap[g]? = some (.cells cur.toList.toArray 5 (0, 0))) := Lib.hid (by simpa using hcur)
  clear hr2 hg2 hb hcur hg
  have hc6 : (cap = 6) = False := by simp; omega
  have hc6' : 6 ≤ cap := by omega
  have hc6'' : 6 ≤ n := by omega
  have hmin : (u8s P).length = Nat.min (n - 6) N := by
    rw [u8s_len, hPl]
    show N = min (n - 6) N
    omega
  have hsrc : Hid (∀ j v, (u8s P)[j]? = some v → w2.cell? ((ad.add 6).add j) = some v) := by
    intro j v hj
    obtain ⟨hjl, rfl⟩ := u8s_of hj
    have hs := H6.out.below hb2 (Nat.le_refl _)
    obtain ⟨ad', hq, _, hc⟩ := hs.at j (by rw [List.length_drop, Hn.out]; omega)
    obtain rfl := Option.some.inj hq
    rw [hc]
    simp only [HP2.out, List.getElem_take]
  have HM := Lib.hid hmin
  clear hmin
  go_wp2_with (with_reducible (refine wpList_copy_splice rfl (.tmp 20) (.tmp 22) 22 22 rfl 5 Try.underlying22 (by kernel_rfl) _ _ _ _ _ _ rfl rfl g 0 cur.toList 5 HC.out (u8s P) HM.out (fun _ => ⟨rfl, _, rfl, hsrc.out⟩) ?d1 (u8s_one P) w.heap.size w hb2 hsz ?_))
  case d1 => simp [u8s_len, hcs, hPl]
  intro w3 hg3 hb3
  have hsp : splice cur.toList 0 (u8s P) = u8s P := by
    unfold splice
    rw [List.drop_of_length_le (by rw [u8s_len, hPl]; simp [hcs])]
    simp
  have HO : Hid (OwnB w3 w.heap.size (.slice (some ⟨g, 0, none⟩) N N) P) := by
    have hh := hg3.out
    rw [hsp] at hh
    unfold Hid OwnB
    rw [hPl]
    refine ⟨by rw [u8s_len, hPl]; omega, .inr ⟨g, N, (u8s P).toArray, rfl, hsz, hh, Nat.le_refl _, by unfold maxLen; omega, ?_, ?_⟩⟩
    · simp [u8s_len, hPl]
    · rw [List.take_of_length_le (by simp [u8s_len, hPl])]
  clear hsp hg3
  go_wp2_with fail
  go_ret3
  exact ⟨_, rfl, HO.out, hb3⟩
/-- What Open tells, whatever the bytes. -/
theorem open_any (v : Value) (l : List UInt8) (hl9 : l.length ≤ 1000000000) (w : World) (hv : Seen w w.heap.size v l) :
    Calls Try.prog 13 #[v] w fun e w' => ∃ u, e = .returned (.tuple #[u, .int .i64 ((openS l).1 : Nat), .int .i64 ((openS l).2 : Nat)]) ∧ OwnB w' w.heap.size u (openP l) ∧ Below w.heap.size w w' := by
  rcases open_cases l with h | h | ⟨n, h1, h2, h⟩
  · rw [h, openP_no h (by decide)]
    exact (open_bad v l hl9 1 h (by decide) w hv).mono fun e w' ⟨he, hb⟩ => ⟨_, he, OwnB.nil _ _, hb⟩
  · rw [h, openP_no h (by decide)]
    exact (open_bad v l hl9 2 h (by decide) w hv).mono fun e w' ⟨he, hb⟩ => ⟨_, he, OwnB.nil _ _, hb⟩
  · rw [h]
    exact open_whole v l hl9 n h h2 w hv
end Go.Proofs.Ytcmceibaaaadoaa
