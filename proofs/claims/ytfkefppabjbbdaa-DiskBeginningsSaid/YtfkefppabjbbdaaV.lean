/- A step of the program. -/
import Derived.Test.YtfkefppabjbbdaaU
namespace Go.Proofs.Ytfkefppabjbbdaa
open Go.RowKit Go.Maps
set_option linter.unusedVariables false
def stE (k : Dk) (kind : Int) (n s : List UInt8) : Nat := if kind = 1 then appendE k n s else if kind = 2 then syncE k n else if kind = 3 then replaceE k n s else removeE k n
def stD (k : Dk) (kind : Int) (n s : List UInt8) : Dk := if kind = 1 then appendD k n s else if kind = 2 then syncD k n else if kind = 3 then replaceD k n s else removeD k n
set_option maxRecDepth 100000 in
theorem do_any {w : World} {F : Nat → Prop} (hF : ∀ i, w.heap.size ≤ i → F i) {d : Nat} {k : Dk} (h : DiskAt w F d k) (kind m : Int) (n s : List UInt8) (hn : n.length ≤ 1000000) (hs : s.length ≤ 10000000) (q : Option Addr) (N cap : Nat) :
    Calls Try.prog 17 #[.pointer (some ⟨d, 0, none⟩), .agg #[.int .i64 kind, .int .i64 m, .string (bs n), .string (bs s), .slice q N cap]] w fun e w' => e = .returned (.int .i64 (stE k kind n s : Nat)) ∧ DiskAt w' F d (stD k kind n s) ∧ Kept F w w' := by
  have HD := Lib.hid h
  have HF := Lib.hid hF
  have cv := run_conv
  clear h hF
  unfold stE stD
  by_cases h1 : kind = 1
  · rw [if_pos h1, if_pos h1]
    have g1 : (kind == 1) = true := by simp [h1]
    clear h1
    have hS := conv_seen (w.alloc (.cells #[.int .i64 kind, .int .i64 m, .string (bs n), .string (bs s), .slice q N cap] 41)) s
    rw [World.size_alloc] at hS
    have hF' : ∀ i, ((w.alloc (.cells #[.int .i64 kind, .int .i64 m, .string (bs n), .string (bs s), .slice q N cap] 41)).alloc (.cells (crow (w.alloc (.cells #[.int .i64 kind, .int .i64 m, .string (bs n), .string (bs s), .slice q N cap] 41)) s) 5 (cfr (w.alloc (.cells #[.int .i64 kind, .int .i64 m, .string (bs n), .string (bs s), .slice q N cap] 41)) s))).drew.heap.size ≤ i → F i := fun i hi => HF.out i (by rw [conv_size, World.size_alloc] at hi; omega)
    go_enter Try.func17, Try.ntmps17
    go_wp2_with fail
    refine (append_any hF' ((HD.out.alloc (.cells #[.int .i64 kind, .int .i64 m, .string (bs n), .string (bs s), .slice q N cap] 41)).conv s) n hn _ s _ hS (Nat.le_refl _) hs).mono ?_
    rintro e w1 ⟨rfl, hd1, hk1⟩
    have HD1 := Lib.hid hd1
    have HK1 := Lib.hid ((((Kept.refl F w).alloc (.cells #[.int .i64 kind, .int .i64 m, .string (bs n), .string (bs s), .slice q N cap] 41)).conv s).trans hk1)
    clear hd1 hk1 hS hF'
    go_wp2_with fail
    go_ret
    exact ⟨rfl, HD1.out, HK1.out⟩
  · rw [if_neg h1, if_neg h1]
    have g1 : (kind == 1) = false := by simp [h1]
    clear h1
    by_cases h2 : kind = 2
    · rw [if_pos h2, if_pos h2]
      have g2 : (kind == 2) = true := by simp [h2]
      clear h2
      go_enter Try.func17, Try.ntmps17
      go_wp2_with fail
      refine (sync_any (HD.out.alloc (.cells #[.int .i64 kind, .int .i64 m, .string (bs n), .string (bs s), .slice q N cap] 41)) n hn).mono ?_
      rintro e w1 ⟨rfl, hd1, hk1⟩
      have HD1 := Lib.hid hd1
      have HK1 := Lib.hid (((Kept.refl F w).alloc (.cells #[.int .i64 kind, .int .i64 m, .string (bs n), .string (bs s), .slice q N cap] 41)).trans hk1)
      clear hd1 hk1
      go_wp2_with fail
      go_ret
      exact ⟨rfl, HD1.out, HK1.out⟩
    · rw [if_neg h2, if_neg h2]
      have g2 : (kind == 2) = false := by simp [h2]
      clear h2
      by_cases h3 : kind = 3
      · rw [if_pos h3, if_pos h3]
        have g3 : (kind == 3) = true := by simp [h3]
        clear h3
        have hS := conv_seen (w.alloc (.cells #[.int .i64 kind, .int .i64 m, .string (bs n), .string (bs s), .slice q N cap] 41)) s
        rw [World.size_alloc] at hS
        have hF' : ∀ i, ((w.alloc (.cells #[.int .i64 kind, .int .i64 m, .string (bs n), .string (bs s), .slice q N cap] 41)).alloc (.cells (crow (w.alloc (.cells #[.int .i64 kind, .int .i64 m, .string (bs n), .string (bs s), .slice q N cap] 41)) s) 5 (cfr (w.alloc (.cells #[.int .i64 kind, .int .i64 m, .string (bs n), .string (bs s), .slice q N cap] 41)) s))).drew.heap.size ≤ i → F i := fun i hi => HF.out i (by rw [conv_size, World.size_alloc] at hi; omega)
        go_enter Try.func17, Try.ntmps17
        go_wp2_with fail
        refine (replace_any hF' ((HD.out.alloc (.cells #[.int .i64 kind, .int .i64 m, .string (bs n), .string (bs s), .slice q N cap] 41)).conv s) n hn _ s hS hs).mono ?_
        rintro e w1 ⟨rfl, hd1, hk1⟩
        have HD1 := Lib.hid hd1
        have HK1 := Lib.hid ((((Kept.refl F w).alloc (.cells #[.int .i64 kind, .int .i64 m, .string (bs n), .string (bs s), .slice q N cap] 41)).conv s).trans hk1)
        clear hd1 hk1 hS hF'
        go_wp2_with fail
        go_ret
        exact ⟨rfl, HD1.out, HK1.out⟩
      · rw [if_neg h3, if_neg h3]
        have g3 : (kind == 3) = false := by simp [h3]
        clear h3
        go_enter Try.func17, Try.ntmps17
        go_wp2_with fail
        refine (remove_any (HD.out.alloc (.cells #[.int .i64 kind, .int .i64 m, .string (bs n), .string (bs s), .slice q N cap] 41)) n hn).mono ?_
        rintro e w1 ⟨rfl, hd1, hk1⟩
        have HD1 := Lib.hid hd1
        have HK1 := Lib.hid (((Kept.refl F w).alloc (.cells #[.int .i64 kind, .int .i64 m, .string (bs n), .string (bs s), .slice q N cap] 41)).trans hk1)
        clear hd1 hk1
        go_wp2_with fail
        go_ret
        exact ⟨rfl, HD1.out, HK1.out⟩
end Go.Proofs.Ytfkefppabjbbdaa
