/- The program's Seal. -/
import Derived.Test.YtcmceibaaaadoaaC
namespace Go.Proofs.Ytcmceibaaaadoaa
open Go.RowKit
set_option linter.unusedVariables false
theorem RowB.grown {w w' : World} {g cap k : Nat} {l : List UInt8} (h : RowB w g cap k l) (hb : w'.heap[g]? = w.heap[g]?) : RowB w' g cap k l := by
  obtain ⟨h1, h2⟩ := h
  refine ⟨h1, ?_⟩
  rcases h2 with ⟨hv, _⟩ | ⟨g', cap', cur, hv, hg, hh, r⟩
  · cases hv
  · cases hv
    exact .inr ⟨g, cap, cur, rfl, hg, by rw [hb]; exact hh, r⟩
theorem RowB.below {w w' : World} {g cap k B : Nat} {l : List UInt8} (h : RowB w g cap k l) (hb : Below B w w') (hB : g < B) : RowB w' g cap k l := h.grown (hb.block g hB)
theorem RowB.alloc {w : World} {g cap k : Nat} {l : List UInt8} (h : RowB w g cap k l) (o : Obj) : RowB (w.alloc o) g cap k l := World.ownsRow.alloc h o
theorem RowB.lt {w : World} {g cap k : Nat} {l : List UInt8} (h : RowB w g cap k l) : g < w.heap.size := (World.ownsRow.lt h g rfl).2
theorem RowB.cells {w : World} {g cap k : Nat} {l : List UInt8} (h : RowB w g cap k l) {j : Nat} (hj : j < l.length) : w.cell? ⟨g, j, none⟩ = some (.int .u8 (l[j].toNat : Int)) := by
  have := World.ownsRow.cells h (g := g) rfl j _ (u8s_get hj)
  rw [Addr.add_mid, Nat.zero_add] at this
  exact this
theorem RowB.seen {w : World} {g cap k : Nat} {l : List UInt8} (h : RowB w g cap k l) : Seen w w.heap.size (.slice (some ⟨g, 0, none⟩) k cap) l := Seen.own h.own
theorem below_grown {B g : Nat} {a w w' : World} (h : Below B a w) (hg : w.grownBy w' (some g)) (hB : B ≤ w.heap.size) (hBg : B ≤ g) : Below B a w' := h.grown hg hB (fun k hk => by cases hk; exact hBg)
theorem inv_int (c : UInt8) : (255 : Int) - (c.toNat : Int) = ((inv c).toNat : Int) := by
  have := c.toNat_lt
  rw [inv_nat]; omega
theorem Seen.src {w : World} {B : Nat} {q : Option Addr} {n cap : Nat} {l : List UInt8} (h : Seen w B (.slice q n cap) l) : (q = none → n = 0 ∧ cap = 0) ∧ (∀ ad, q = some ad → ∀ j u, (u8s l)[j]? = some u → w.cell? (ad.add j) = some u) := by
  rcases h with ⟨h0, hv⟩ | ⟨ad', cap', hv, hc, hg, hh⟩
  · cases hv
    exact ⟨fun _ => ⟨rfl, rfl⟩, fun ad h => (by cases h)⟩
  · cases hv
    refine ⟨fun h => (by cases h), fun ad h j u hu => ?_⟩
    obtain rfl := Option.some.inj h
    obtain ⟨hj, rfl⟩ := u8s_of hu
    exact hh j hj
set_option maxRecDepth 100000 in
theorem seal_long (q : Option Addr) (n cap : Nat) (hl : 65536 < n) (w : World) :
    Calls Try.prog 11 #[.slice q n cap] w fun e w' => e = .returned (.tuple #[.slice none 0 0, .int .i64 9]) ∧ w' = w := by
  have h1 : decide ((65536 : Int) < (n : Int)) = true := by simp; omega
  go_enter Try.func11, Try.ntmps11
  go_wp2
  go_ret2
  exact ⟨rfl, rfl⟩
set_option maxRecDepth 100000 in
theorem seal_any (v : Value) (l : List UInt8) (hl : l.length ≤ 65536) (w : World) (hv : Seen w w.heap.size v l) :
    Calls Try.prog 11 #[v] w fun e w' => e = .returned (.tuple #[.slice (some ⟨w.heap.size, 0, none⟩) (l.length + 10) (l.length + 10), .int .i64 0]) ∧ RowB w' w.heap.size (l.length + 10) (l.length + 10) (frameL l) ∧ Below w.heap.size w w' := by
  obtain ⟨i0, hi, hz0, hz1, hz2⟩ := info_parts info5
  obtain ⟨q, cap, rfl, _⟩ := hv.len
  have HV := Lib.hid hv
  clear hv
  obtain ⟨n, hn⟩ : ∃ n, l.length = n := ⟨_, rfl⟩
  rw [hn] at hl HV ⊢
  have Hn := Lib.hid hn
  clear hn
  obtain ⟨g, hg⟩ : ∃ g, w.heap.size = g := ⟨_, rfl⟩
  rw [hg] at HV ⊢
  have Hg := Lib.hid hg
  go_enter Try.func11, Try.ntmps11
  go_wp2_with (at_make; refine wpList_make_own _ rfl _ _ 22 rfl g 5 i0 (.int .u8 0) 1 Try.underlying22 hi hz0 hz1 .i64 .i64 _ (n + 10) rfl rfl ?c1 ?c2 ?c3 ?c4 ?_)
  case c1 => omega
  case c2 => rw [hz2]; omega
  case c3 => unfold maxLen; omega
  case c4 => omega
  intro w1 hr1 hg1
  have hb1 : Below g w w1 := (Below.refl g w).grown hg1 (by omega) (fun k hk => by cases hk)
  have hr1 : RowB w1 g (n + 10) 0 [] := hr1
  clear hg1
  go_wp2_with fail
  refine (putNumber_any g (n + 10) n 3 0 (by omega) [] (by omega) (by omega) w1 hr1 (by omega)).mono ?_
  rintro e w2 ⟨rfl, hr2, hg2⟩
  have hsz1 := hb1.size
  have hb2 := below_grown hb1 hg2 (by omega) (Nat.le_refl _)
  simp only [List.nil_append, Nat.zero_add] at hr2 ⊢
  clear hr1 hb1 hg2
  go_wp2_with fail
  go_loopw [4, 23] (fun u c wr => ∃ k : Nat, k ≤ 3 ∧ c = .int .i64 k ∧ u = .slice (some ⟨g, 0, none⟩) (3 + k) (n + 10) ∧ RowB wr g (n + 10) (3 + k) (beL 3 n ++ ((beL 3 n).map inv).take k) ∧ Below g w wr) (fun _ c _ => 3 - (intOf c).toNat)
  case atStart => exact ⟨0, by omega, rfl, rfl, by simpa using hr2, hb2⟩
  case round =>
    obtain ⟨k, hk, rfl, rfl, hr, hb⟩ := hrel
    have hgs := hr.lt
    by_cases hlt : k < 3
    · have hkl : k < (beL 3 n).length := by rw [beL_len]; omega
      obtain ⟨c, hc⟩ : ∃ c, (beL 3 n)[k] = c := ⟨_, rfl⟩
      have hcell := hr.cells (j := k) (by rw [List.length_append]; omega)
      rw [List.getElem_append_left hkl, hc] at hcell
      have hstep : ((beL 3 n).map inv).take (k + 1) = ((beL 3 n).map inv).take k ++ [inv c] := by
        rw [List.take_succ_eq_append_getElem (by rw [List.length_map]; omega), List.getElem_map, hc]
      have HS := Lib.hid hstep
      have HI := Lib.hid (inv_int c)
      have hx := c.toNat_lt
      clear hstep hc
      unfold RowB at hr
      go_wp2_with (at_builtin; refine wpList_append_fits _ rfl (.tmp 27) (.tmp 30) 22 rfl g 5 i0 1 Try.underlying22 hi hz1 g (3 + k) (n + 10) _ rfl (hr.alloc _) ⟨wr.heap.size, 0, none⟩ 1 1 [.int .u8 ((255 : Int) - (c.toNat : Int))] rfl rfl ?c1 ?c2 ?c3 ?_)
      case c1 => exact cell_one _ _ _
      case c2 => intro u hu; simp at hu; subst hu; rfl
      case c3 => omega
      intro w3 hown3 hgrow3
      have hb3 : Below g w w3 := below_grown (hb.alloc (by omega) _) hgrow3 (by simp; omega) (Nat.le_refl _)
      clear hgrow3 hr hb
      go_wp2
      go_roundw
      case rel =>
        refine ⟨k + 1, by omega, by go_num, rfl, ?_, hb3⟩
        unfold RowB
        rw [HS.out, ← List.append_assoc, u8s_app (beL 3 n ++ _)]
        rw [HI.out] at hown3
        exact hown3
      case measure => simp [intOf]; omega
    · obtain rfl : k = 3 := by omega
      have e1 : beL 3 n ++ ((beL 3 n).map inv).take 3 = headL n := by
        rw [List.take_of_length_le (by rw [List.length_map, beL_len]; omega)]; rfl
      rw [e1] at hr
      obtain ⟨hs1, hs2⟩ := (HV.out.below hb (Nat.le_refl _)).src
      unfold RowB at hr
      clear e1
      go_wp2_with (at_builtin; refine wpList_append_fits_any _ rfl (.tmp 33) (.tmp 34) 22 rfl g 5 i0 1 Try.underlying22 hi hz1 g (3 + 3) (n + 10) _ rfl hr q n cap (u8s l) rfl ?d1 hs1 hs2 (u8s_one l) ?d2 ?_)
      case d1 => rw [u8s_len, Hn.out]; omega
      case d2 => omega
      intro w3 hown3 hgrow3
      have hb3 : Below g w w3 := below_grown hb hgrow3 (by omega) (Nat.le_refl _)
      have hr3 : RowB w3 g (n + 10) (3 + 3 + n) (frontL l) := by
        unfold RowB frontL
        rw [Hn.out, u8s_app]
        exact hown3
      have hll : (frontL l).length = 6 + n := by rw [frontL_len, Hn.out]
      have hS := hr3.seen
      have hz3 := hr3.lt
      clear hgrow3 hown3 hr hb hs1 hs2
      go_wp2_with fail
      refine (sum_any _ (frontL l) _ (by omega) w3 hS).mono ?_
      rintro e w4 ⟨rfl, rfl⟩
      have hsl := sumN_lt (frontL l)
      go_wp2_with fail
      refine (putNumber_any g (n + 10) (sumN (frontL l)) 4 (3 + 3 + n) (by omega) (frontL l) (by omega) (by omega) w4 hr3 hsl).mono ?_
      rintro e w5 ⟨rfl, hr5, hg5⟩
      have hb5 := below_grown hb3 hg5 (by omega) (Nat.le_refl _)
      have e5 : 3 + 3 + n + 4 = n + 10 := by omega
      rw [e5] at hr5 ⊢
      have H5 := Lib.hid hr5
      clear hr5 hg5 hb3 hr3 hS
      go_wp2
      go_ret2
      exact ⟨rfl, H5.out, hb5⟩
end Go.Proofs.Ytcmceibaaaadoaa
