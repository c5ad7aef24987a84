/- A stable sort, walked: slices' stableCmpFunc, SortStableFunc. -/
import Derived.Test.YthfhfekneahonaaDoorSd
namespace Go.Proofs.YthfhfekneahonaaDoor
open Go.Shelf Go.RowKit Go.Lib Go.Sort
set_option linter.unusedVariables false
set_option maxHeartbeats 4000000 in
set_option maxRecDepth 1000000 in
theorem stable_k (k : Nat) (aE : ∀ w, (isAgg 24).run Tryd.prog w = .ok true w) (zE : ∀ w, (Go.sizeOf 24).run Tryd.prog w = .ok k w) (enc : Nat → List Value) (cf : Nat → Nat → Int) (g : Nat) (cb : Array Value) (eg : ∀ args w, (callFunc g args).run Tryd.prog w = .ok (.enter g args) w) (blk off cap : Nat) (d0 : Array Nat) (w0 : World) (R : RowK enc k w0 blk off d0) (N : Nat) (hs0 : d0.size = N) (hcmp : CmpLays Tryd.prog g cb enc k cf blk off d0.size w0) (hN : N ≤ 1000) (hS : SWO (ltOf cf))
    (w : World) (hX : ∀ t, t < N → d0[t]! = t) (S : SWK enc k w0 blk off d0 w) :
    Calls Tryd.prog 80 #[.slice (some ⟨blk, off, none⟩) N cap, .int .i64 N, .func (.func g) #[] cb] w fun e w' => e = .returned (.tuple #[]) ∧ ∃ r, PermIn 0 N d0 r ∧ SortedIn (prec (ltOf cf)) 0 N r ∧ SWK enc k w0 blk off r w' := by
  have mixed : Tryd.prog.follows .mixedOrders = true := by kernel_rfl
  have e92 : ∀ args w, (callFunc 92 args).run Tryd.prog w = .ok (.enter 92 args) w := enters_of Tryd.func92 (by kernel_rfl) rfl
  have e93 : ∀ args w, (callFunc 93 args).run Tryd.prog w = .ok (.enter 93 args) w := enters_of Tryd.func93 (by kernel_rfl) rfl
  have HI' := insert_k k aE zE enc cf g cb eg blk off cap d0 w0 R N hs0 hcmp (by omega) hS
  have HM' := merge_k k zE enc cf g cb eg blk off cap d0 w0 R N hs0 hcmp (by omega) N
  have HI := Lib.hid HI'
  have HM := Lib.hid HM'
  clear HI' HM'
  have S0 : Aside (SWK enc k w0 blk off d0 w) := S
  have F0 : Hid (First (ltOf cf) N 0 d0) := ⟨⟨0, by simp⟩, fun lo _ x => by omega, fun t _ x => hX t x⟩
  have HSW : Hid (SWO (ltOf cf)) := hS
  clear S hX hS hcmp zE aE
  go_enter Tryd.func80, Tryd.ntmps80
  go_wp2
  go_loopg [7, 8] N (fun kx va vb wr => ∃ (a : Nat) (dk : Array Nat), va = .int .i64 a ∧ vb = .int .i64 ((a : Int) + 20) ∧ a ≤ N ∧ N - a ≤ kx ∧ dk.size = N ∧ Aside (SWK enc k w0 blk off dk wr) ∧ Hid (First (ltOf cf) N a dk) ∧ Hid (PermIn 0 N d0 dk))
  case atStart => exact ⟨0, d0, rfl, by first | rfl | go_num, by omega, by omega, hs0, S0, F0, permIn_refl d0 0 N⟩
  case round =>
    clear S0 F0
    obtain ⟨a, dk, rfl, rfl, ha, hkx, hds, S1, F1, HP⟩ := hrel
    by_cases h1 : a + 20 ≤ N
    · have h1z : (a : Int) + 20 ≤ (N : Int) := by omega
      have C' := HI.out a (a + 20) dk wr (by omega) h1 hds (fun s t x1 x2 x3 => by rw [F1.out.r s x1 (by omega), F1.out.r t (by omega) (by omega)]; exact x2) S1.out
      have C := Lib.hid C'
      clear C'
      have e20 : ((a + 20 : Nat) : Int) = (a : Int) + 20 := by omega
      rw [e20] at C
      clear e20
      go_wp2_with fail
      refine C.out.mono ?_
      rintro e w2 ⟨rfl, r, p2, q2, S2⟩
      have S3 : Aside (SWK enc k w0 blk off r w2) := S2
      have F3 : Hid (First (ltOf cf) N (a + 20) r) := F1.out.step hds h1 p2 q2
      have P3 : Hid (PermIn 0 N d0 r) := permIn_trans _ _ _ _ _ HP.out (permIn_mono _ _ _ _ _ _ (by omega) h1 (by omega) p2)
      have hr : r.size = N := by rw [p2.1]; exact hds
      clear S2 p2 q2 C S1 F1 HP
      go_wp2
      go_roundg (N - (a + 20))
      case measure => omega
      case rel => exact ⟨a + 20, r, by first | rfl | go_num | (congr 1; omega), by first | rfl | go_num | (congr 1; omega), h1, Nat.le_refl _, hr, S3, F3, P3⟩
    · have h1z : ¬ (a : Int) + 20 ≤ (N : Int) := by omega
      have C' := HI.out a N dk wr ha (Nat.le_refl _) hds (fun s t x1 x2 x3 => by rw [F1.out.r s x1 (by omega), F1.out.r t (by omega) (by omega)]; exact x2) S1.out
      have C := Lib.hid C'
      clear C'
      go_wp2_with fail
      refine C.out.mono ?_
      rintro e w2 ⟨rfl, r, p2, q2, S2⟩
      have S3 : Aside (SWK enc k w0 blk off r w2) := S2
      have B3 : Hid (Blocks (ltOf cf) 20 N r) := F1.out.last hds ha (by omega) p2 q2
      have P3 : Hid (PermIn 0 N d0 r) := permIn_trans _ _ _ _ _ HP.out (permIn_mono _ _ _ _ _ _ (by omega) (Nat.le_refl _) (by omega) p2)
      have hr : r.size = N := by rw [p2.1]; exact hds
      clear S2 p2 q2 C S1 F1 HP
      go_wp2
      go_loopg [6] N (fun kx vc wr => ∃ (c : Nat) (dk : Array Nat), vc = .int .i64 c ∧ 20 ≤ c ∧ c ≤ 2000 ∧ N - c ≤ kx ∧ dk.size = N ∧ Aside (SWK enc k w0 blk off dk wr) ∧ Hid (Blocks (ltOf cf) c N dk) ∧ Hid (PermIn 0 N d0 dk))
      case atStart => exact ⟨20, r, rfl, by omega, by omega, by omega, hr, S3, B3, P3⟩
      case round =>
        clear S3 B3 P3 hr
        obtain ⟨c, dk, rfl, hc1, hc2, hkx, hds, S1, B1, HP⟩ := hrel
        by_cases h2 : c < N
        · have h2z : (c : Int) < (N : Int) := by omega
          go_wp2
          go_loopg [7, 8] N (fun ky va vb wr => ∃ (a : Nat) (dj : Array Nat), va = .int .i64 a ∧ vb = .int .i64 ((a : Int) + 2 * (c : Int)) ∧ a ≤ N ∧ N - a ≤ ky ∧ dj.size = N ∧ Aside (SWK enc k w0 blk off dj wr) ∧ Hid (Half (ltOf cf) c N a dj) ∧ Hid (PermIn 0 N d0 dj))
          case atStart => exact ⟨0, dk, rfl, by first | rfl | go_num | (congr 1; omega), by omega, by omega, hds, S1, Half.start B1.out, HP⟩
          case round =>
            clear S1 B1 HP
            obtain ⟨a, dj, rfl, rfl, ha, hky, hdj, S1, H1, HP⟩ := hrel
            by_cases h3 : a + 2 * c ≤ N
            · have h3z : (a : Int) + 2 * (c : Int) ≤ (N : Int) := by omega
              obtain ⟨g1, g2⟩ := H1.out.two (by omega)
              rw [show min (a + c + c) N = a + 2 * c by omega] at g2
              have C' := HM.out a (a + c) (a + 2 * c) dj wr (by omega) (by omega) (by omega) h3 hdj (Good.pre HSW.out g1 g2) S1.out
              have C := Lib.hid C'
              clear C'
              rw [show ((a + 2 * c : Nat) : Int) = (a : Int) + 2 * (c : Int) by omega, show ((a + c : Nat) : Int) = (a : Int) + (c : Int) by omega] at C
              clear g1 g2
              go_wp2_with fail
              refine C.out.mono ?_
              rintro e w4 ⟨rfl, r, p2, q2, S2⟩
              have S3 : Aside (SWK enc k w0 blk off r w4) := S2
              have H3 : Hid (Half (ltOf cf) c N (a + 2 * c) r) := H1.out.step (by omega) hdj h3 p2 q2
              have P3 : Hid (PermIn 0 N d0 r) := permIn_trans _ _ _ _ _ HP.out (permIn_mono _ _ _ _ _ _ (by omega) h3 (by omega) p2)
              have hr : r.size = N := by rw [p2.1]; exact hdj
              clear S2 p2 q2 C S1 H1 HP
              go_wp2
              go_roundg (N - (a + 2 * c))
              case measure => omega
              case rel => exact ⟨a + 2 * c, r, by first | rfl | go_num | (congr 1; omega), by first | rfl | go_num | (congr 1; omega), h3, Nat.le_refl _, hr, S3, H3, P3⟩
            · have h3z : ¬ (a : Int) + 2 * (c : Int) ≤ (N : Int) := by omega
              by_cases h4 : a + c < N
              · have h4z : (a : Int) + (c : Int) < (N : Int) := by omega
                obtain ⟨g1, g2⟩ := H1.out.two h4
                rw [show min (a + c + c) N = N by omega] at g2
                have C' := HM.out a (a + c) N dj wr (by omega) (by omega) h4 (Nat.le_refl _) hdj (Good.pre HSW.out g1 g2) S1.out
                have C := Lib.hid C'
                clear C'
                rw [show ((a + c : Nat) : Int) = (a : Int) + (c : Int) by omega] at C
                clear g1 g2
                go_wp2_with fail
                refine C.out.mono ?_
                rintro e w4 ⟨rfl, r, p2, q2, S2⟩
                have S3 : Aside (SWK enc k w0 blk off r w4) := S2
                have H3 : Hid (Blocks (ltOf cf) (2 * c) N r) := H1.out.last (by omega) hdj h4 (by omega) p2 q2
                have P3 : Hid (PermIn 0 N d0 r) := permIn_trans _ _ _ _ _ HP.out (permIn_mono _ _ _ _ _ _ (by omega) (Nat.le_refl _) (by omega) p2)
                have hr : r.size = N := by rw [p2.1]; exact hdj
                clear S2 p2 q2 C S1 H1 HP
                go_wp2
                go_roundg (N - 2 * c)
                case measure => omega
                case rel => exact ⟨2 * c, r, by first | rfl | go_num | (congr 1; omega), by omega, by omega, Nat.le_refl _, hr, S3, H3, P3⟩
              · have h4z : ¬ (a : Int) + (c : Int) < (N : Int) := by omega
                have H3 : Hid (Blocks (ltOf cf) (2 * c) N dj) := H1.out.done (by omega) h4 ha
                clear H1
                go_wp2
                go_roundg (N - 2 * c)
                case measure => omega
                case rel => exact ⟨2 * c, dj, by first | rfl | go_num | (congr 1; omega), by omega, by omega, Nat.le_refl _, hdj, S1, H3, HP⟩
        · have h2z : ¬ (c : Int) < (N : Int) := by omega
          go_wp2
          go_end0
          exact ⟨rfl, dk, HP.out, B1.out.whole (by omega), S1.out⟩
set_option maxHeartbeats 4000000 in
set_option maxRecDepth 1000000 in
theorem sortStable_k (k : Nat) (aE : ∀ w, (isAgg 24).run Tryd.prog w = .ok true w) (zE : ∀ w, (Go.sizeOf 24).run Tryd.prog w = .ok k w) (enc : Nat → List Value) (cf : Nat → Nat → Int) (g : Nat) (cb : Array Value) (eg : ∀ args w, (callFunc g args).run Tryd.prog w = .ok (.enter g args) w) (blk off cap : Nat) (d0 : Array Nat) (w0 : World) (R : RowK enc k w0 blk off d0) (N : Nat) (hs0 : d0.size = N) (hcmp : CmpLays Tryd.prog g cb enc k cf blk off d0.size w0) (hN : N ≤ 1000) (hS : SWO (ltOf cf))
    (hX : ∀ t, t < N → d0[t]! = t) :
    Calls Tryd.prog 52 #[.slice (some ⟨blk, off, none⟩) N cap, .func (.func g) #[] cb] w0 fun e w' => e = .returned (.tuple #[]) ∧ ∃ r, PermIn 0 N d0 r ∧ SortedIn (prec (ltOf cf)) 0 N r ∧ SWK enc k w0 blk off r w' := by
  have C' := stable_k k aE zE enc cf g cb eg blk off cap d0 w0 R N hs0 hcmp hN hS w0 hX (SWK.start R.hH)
  have C := Lib.hid C'
  clear C'
  have e80 : ∀ args w, (callFunc 80 args).run Tryd.prog w = .ok (.enter 80 args) w := enters_of Tryd.func80 (by kernel_rfl) rfl
  clear hX hS hcmp zE aE
  go_enter Tryd.func52, Tryd.ntmps52
  go_wp2_with fail
  refine C.out.mono ?_
  rintro e w2 ⟨rfl, h⟩
  go_wp2
  go_end0
  exact ⟨rfl, h⟩
end Go.Proofs.YthfhfekneahonaaDoor
